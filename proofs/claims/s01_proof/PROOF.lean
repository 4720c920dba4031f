import PyProof.Rows.All
import PySem.Sem
import VbdeabSpec
import Wide.All
import OpenK.AllK
import Wide.FinOn
import PyProof.EqAt
import PyProof.EqKinds
import PyProof.TupleCall
import KE.BitLaws
import Open.SpecLaws
import KE.OsHead
import KE.OsGo
import KE.IntBitsLaws
import KE.KLam
import KE.KSortKeyAny
import KE.KNest
import PySem.Challenge.RW_toldchance_s01_answers
import PyVbdeab
import PyFlatLaws
set_option Elab.async false
set_option linter.all false
set_option maxRecDepth 100000
set_option maxHeartbeats 2000000
structure PySem.W.Fast:Prop where(tw12431914988326751322 tw16778293736953812535 tw15914116317158455284 tw15742860449131527073 tw5463368429055545702 tw9182583897468792359 tw12830891442582113111 tw5936616668941269758 tw5003936086911677279 tw11990924929570449618 tw10310216905564145556 tw10757049238514008366 tw16757420751912548318 tw6596173663294872229 tw1081917364714018277 tw7327753264068488931 tw11771075155360313648 tw10198408067027780389 tw9330356652639915197 tw14397722298467082850 tw3001399256230100409 tw15220328211249636285 tw8392970024204344839 tw1695415432481185034 tw7825065650568865881 tw13981594397897146268 tw15500287641619291886 tw7578281736231953068 tw10851405245388056622 tw11642152128394632923 tw2522987130876208059 tw9988587871708223540 tw14839091986227263915 tw12524374726428677136 tw15384366132751483820 tw5163379296650003455 tw2241325001004975404 tw1692465560135967478 tw2047630232844566039 tw10554019307066335570 tw15262691942085817519 tw10459542935050205401 tw8579355222605862015 tw9379573662130969066 tw11171067039983236617 tw17760360187962731894 tw92932844564617628 tw4307136963332669866 tw10965535152836602413 tw5276250902903391756 tw18241584460750836733 tw14803406139126536182 tw4401280138204368331 tw6390938394777395144 tw16707359932153311502 tw4902839882442642475 tw15844800771371713596 tw3699871686542258292 tw7786982980943712884 tw13023240040889684401 tw5419578771426699508 tw11180022255712002361 tw5886859474059175146 tw6750019973470879786 tw9087947436506392228 tw14570811391389759739 tw11388095044323661639 tw6274244201637779582 tw10513958037738339489 tw2174838871033289758 tw18162154289865588611 tw17230399139168421995 tw13545810358921001884 tw5560698326240943118 tw18360507309077415389 tw10376376090963237836 tw8838774897981785302 tw16871005333562265531 tw1802429432766989674 tw3659289785144885401 tw16931412246381595329 tw1618590998860269120 tw2537056952779272347 tw1913801623592772511 tw11718540395176346692 tw2466833718299399061 tw6246141104374020626 tw4576077693986152740 tw4272889962347832532 tw5324631765817377247 tw3889156918371561491 tw12729050014827158136 tw14852014018240673269 tw8778038463018057072 tw7272239055069281919 tw18317836777723647867 tw7573622576148446409 tw10975348464945954305 tw3570696299762338538 tw8630945023152042967 tw10761755605955809539 tw536753092742911359 tw7332383152568028492 tw6151217328153208785 tw3817525387847013299 tw17832656018570386277 tw10120892596323888408 tw12728284102914194887 tw188991319534363130 tw17369656851672675106 tw9678406258465426747 tw7266019224206337715 tw7675450105396308513 tw10180188338088308634 tw13052968106049902569 tw6463546168144929460 tw15411522603153917911 tw6446984584962420033 tw14834362276064988773 tw17484133310484421074 tw5068551061790308068 tw125083495094165998 tw16560617189575999308 tw13240728075750230912 tw17532118305517732053 tw1697456450450476872 tw17921341698526614108 tw14968347811782331618 tw5413777810154599273 tw5533767865841854900 tw10538871719552461161 tw10990087327468786873 tw2169298730449505143 tw2123839068004472106 tw14775091007476542302 tw4587812306169842366 tw6261041180200227176 tw14986152619710003422 tw3590270509260355105 tw12597804462203351069 tw4218490640029870386 tw958885402553729324 tw13557637306267881350 tw12974354005945731419 tw2267689087366717723 tw11594505573318286209 tw18082723640546590500 tw18268305580548573349 tw5509026615517033458 tw14562458328854495419 tw3072066672218875709 tw14579207725010098236 tw6964198792446407068 tw15007168763490365399 tw10237027411789452285 tw3996317641103821134 tw8846230918864547321 tw67507659384495029 tw4465871810035029545 tw5688209324577566695 tw4991557813684955237 tw12500728127230144304 tw6750026833186242885 tw6421067732977501336 tw12570815459397270920 tw7704592523292020023 tw14660599537116692848 tw14738587476684427187 tw8125901364625570885 tw12485129414894941322 tw6269022102459443249 tw4734546295739961267 tw9750352245553151298 tw4517753849657663693 tw1186792577974138819 tw3880585846722365216 tw10124745922059574162 tw8440976257946475163 tw11558429632888861086 tw4900311490850824102 tw18105160357506477323 tw2985787939216132493 tw16951657960010824068 tw15256147773698809478 tw18392823778901869955 tw6382770546196655957 tw8743206745991973806 tw8166856835279771542 tw15742969878861826270 tw5789585848005309009 tw4910322640759799498 tw7395264641086370092 tw12569513236361537656 tw12513502977108977662 tw3722305288677087956 tw5667353429257588458 tw13868107838862248496 tw339337648701769168 tw4101925265144046270 tw7317891217308333556 tw6586054283964533306 tw1873073383491227325 tw13384365436532152517 tw17364921315677021282 tw7190447943697066389 tw5609817289925781470 tw9512937437238796358 tw5326989675257632759 tw13530775658081973025 tw17914192834223817471 tw3456486029369215671 tw17589144510286641275 tw12975831232072372801 tw4815518517886243263 tw4119233461223336508 tw14558078100580092322 tw3107929278314037803 tw1144321808859358206 tw16767480939537521971 tw1644357926432848161 tw9336271774863121029 tw14568538333043614768 tw17938061991783102274 tw7524791537477580277 tw1213730978802625912 tw9659808156131142714 tw14988961731674713429 tw7856131229150254250 tw11952649664269599030 tw13966230480502705560 tw6551972500375903067 tw2481097232128465123 tw15196092117976647303 tw15455154648968325360 tw12268050975337188174 tw7300415807067458665 tw4133117768978828576 tw5162721648739606277 tw12177257780662319969 tw457895351464260294 tw685920056419048305 tw13513061111080151581 tw14425618859956152685 tw11984189211503537545 tw233314622639563951 tw7249287904279225286 tw12822035133174571070 tw1974469415256258403 tw2959448131370667753 tw695180229324830396 tw17157484533695682507 tw11981626522738389144 tw233363219871733689 tw5512801112098991552 tw13746005448374599605 tw3380977453708080917 tw14166087262788312818 tw12071078641487483286 tw14749535125434829528 tw88862392382355731 tw13826092326072578340 tw12602771419054200569 tw1491503281053737499 tw15215894119883363939 tw10689654979489164677 tw11032248545498225601 tw11382743414067519394 tw8033299602772860178 tw5577367666301592771 tw6842407035123331798 tw12065057565529968042 tw2648279384338507346 tw4152688173261273965 tw7425831982869547326 tw4612857437682964448 tw6434720319542739187 tw15513530999619128665 tw18061403588680902585 tw565155733058754099 tw12077967104812440901 tw11507648333024220347 tw14836414269208192542 tw5673466559812010662 tw1372915358515562732 tw16092017046456103241 tw1540006038459782071 tw18425802427676450975 tw17652495506422853590 tw12024749385151845047 tw12180050710604550995 tw15223761845560157401 tw29367475724147647 tw7859366347596863267 tw18341692617013339674 tw577076929577615664 tw15093270867136013621 tw15304769162326401998 tw14382351182663227667 tw15991779687213956191 tw7916180450563768669 tw14418693045759799162 tw17070587588340822322 tw16282688584839493568 tw14452450358330025911 tw10063504246422613144 tw13677211905620629993 tw4767951246793664623 tw14149695298899453210 tw17230911349217379277 tw6437602591061925497 tw7645341705620470469 tw8937783704893590160 tw11808252793972498021 tw6097423247552012024 tw10296797578864915772 tw8142821309035813820 tw3220837405025171530 tw6238184955614331596 tw15847752340978490305 tw9486721630780025903 tw4786492776185912981 tw11917385746904477204 tw6420344703784840741 tw15366722342700686391 tw4886902656211389059 tw9482276692916718948 tw7105729497256241015 tw11245305095021012802 tw15072284641870332938 tw126870665220926756 tw5162900589611327955 tw1696749746098804690 tw8136345781005141269 tw1506433207083766342 tw14992602047317604871 tw12294509193375342782 tw15451004329785269634 tw5243608137197844355 tw5257888467330087242 tw2825855820404476172 tw277928004685057561 tw10148854840548726594 tw14050786935568159342 tw4935201796466070618 tw7700822238287497727 tw2150750194015142843 tw5544909212738085960 tw1275107949389515697 tw1760237157535272720 tw1067917869616331221 tw12213596597089613525 tw10498016525363348150 tw3949262546679116156 tw8301448697010853885 tw6418018110458672762 tw2006877495507706246 tw4546628504401690474 tw12078270367795513776 tw3521860147608743794 tw17409390338444701746 tw7635758035708113167 tw2302610333512248544 tw6265151200444914041 tw11949577813455738138 tw2064526721405809560 tw1952233376249152948 tw13055030839883858919 tw12519978334215460831 tw6717164924033018312 tw11580973221204691863 tw17528239949349618447 tw5017565418951213611 tw2470575585551271500 tw10433952369301770685 tw4795811747659122693 tw9074659617886917912 tw17530973479381108702 tw12904276425923984396 tw538285196509971052 tw17027418458716957225 tw3438415540865641911 tw6632959631577369620 tw14027056021712945709 tw13286245931640300182 tw17857105324234779100 tw12443241003362825843 tw3861110935761454044 tw8710771247375263146 tw10658695402666237803 tw13388560168060058773 tw3661920627641432989 tw9986946329779951239 tw2991048487252703173 tw18136963177976850338 tw9098083819698847681 tw817150534826893520 tw10090944316071617879 tw16182347875021737606 tw5355721110955810700 tw1228251312022814878:True)
section
set_option maxHeartbeats 0
open PySem PySem.W PyProof.Rows
local macro_rules | `(tactic| o_law) => `(tactic| skip)
local macro_rules | `(tactic| k_head) => `(tactic| k_headS)
local macro_rules | `(tactic| w_witness2) => `(tactic| exact ⟨[.list [.int 1, .int 0]], by decide +kernel, by decide +kernel⟩)
open_top hdTop for PySem.Challenge.rw_toldchance_s01_answers
end
noncomputable section
local macro_rules|`(term|⋯)=>`(term|by omega)
local macro_rules|`(term|())=>`(term|by decide)
open Vbdeab (LIMIT State Stream along bestOf build ceilDiv checked chosen classes does exchange farFrom fractions hitsFrom holdNew joined links locate lotsOf nats onDist onStream place point points ramp ranges sharesFrom shownClass shownQ shownRow shuffled spaced stateOk streamOk taken toldRows tooth total variance weighted weights weightsOk within)
def HB:=@Array.length_toList
def yx:=@Bool.and_eq_true
def Jc:=@Bool.and_eq_true_iff
def uI:=@Bool.false_ne_true
def i9:=@PySem.Heap.get?_push_of_some
def vv:=@PySem.Heap.get?_push_size
def fo:=@PySem.Heap.lt_size
def Bh:=@PySem.Heap.size_push
def Jd:=@Int.dvd_mul_of_dvd_left
def fH:=@Int.le_of_lt
def HC:=@Int.le_of_mul_le_mul_right
def J1:=@Int.lt_ediv_add_one_mul_self
def n6:=@Int.mul_assoc
def pR:=@Int.mul_comm
def C3:=@Int.mul_ediv_cancel_left
def C4:=@Int.mul_le_mul_of_nonneg_left
def vT:=@Int.mul_le_mul_of_nonneg_right
def MX:=@Int.mul_le_mul_of_nonpos_left
def pS:=@Int.mul_left_comm
def eZ:=@Int.mul_pos
def Ay:=@Int.natAbs_dvd_natAbs
def kr:=@Int.natAbs_natCast
def pT:=@Int.natCast_add
def C5:=@Int.natCast_ediv
def b9:=@Int.natCast_mul
def sI:=@Int.natCast_sub
def MY:=@Int.nonneg_of_mul_nonneg_left
def C6:=@Int.ofNat_dvd
def cV:=@Int.toNat_natCast
def cE:=@Int.toNat_of_nonneg
def kt:=@Int.zero_add
def C7:=@List.all_cons
def Az:=@List.all_eq_true
def vU:=@List.append_nil
def HD:=@List.cons_append
def EF:=@List.eq_nil_of_length_eq_zero
def HE:=@List.filter_append
def uJ:=@List.filter_cons
def C8:=@List.find?_cons
def HF:=@List.flatMap_cons
def HG:=@List.flatten_cons
def e8:=@List.getD_eq_getElem?_getD
def n8:=@List.getElem?_append_left
def n9:=@List.getElem?_append_right
def bH:=@List.getElem?_eq_getElem
def uK:=@List.getElem?_eq_none
def cg:=@List.getElem?_eq_some_iff
def du:=@List.getElem?_map
def HH:=@List.getElem?_range
def AA:=@List.getElem?_set_ne
def AB:=@List.getElem?_set_self
def bZ:=@List.length_append
def d8:=@List.length_cons
def C9:=@List.length_drop
def HI:=@List.length_filter_le
def aD:=@List.length_map
def ft:=@List.length_range
def J2:=@List.length_replicate
def sJ:=@List.length_set
def ii:=@List.length_take
def Da:=@List.lookup_cons
def dB:=@List.map_append
def oa:=@List.map_congr_left
def e9:=@List.map_cons
def fu:=@List.map_map
def yy:=@List.map_set
def jT:=@List.mem_append
def Db:=@List.mem_append_left
def sK:=@List.mem_append_right
def cH:=@List.mem_cons
def dX:=@List.mem_cons_of_mem
def fD:=@List.mem_cons_self
def Dc:=@List.mem_filter
def lV:=@List.mem_map
def eR:=@List.mem_of_getElem?
def gQ:=@List.mem_singleton
def HJ:=@List.nil_append
def uL:=@List.nodup_cons
def J3:=@List.range_succ_eq_map
def Dd:=@List.replicate_succ
def fR:=@List.size_toArray
def AC:=@List.sum_cons
def jU:=@List.take_length
def lD:=@List.take_of_length_le
def yA:=@Nat.add_assoc
def uM:=@Nat.add_mod
def AD:=@Nat.add_mul
def lW:=@Nat.add_zero
def HK:=@Nat.dvd_antisymm
def yB:=@Nat.dvd_gcd
def EG:=@Nat.eq_zero_or_pos
def vV:=@Nat.gcd_dvd_left
def jk:=@Nat.gcd_dvd_right
def HL:=@Nat.gcd_pos_of_pos_right
def bq:=@Nat.le_refl
def fS:=@Nat.le_trans
def sM:=@Nat.lt_irrefl
def oe:=@Nat.lt_of_le_of_lt
def gR:=@Nat.lt_of_lt_of_le
def sO:=@Nat.lt_or_ge
def C0:=@Nat.lt_trichotomy
def wR:=@Nat.min_eq_left
def rC:=@Nat.mod_eq_of_lt
def i6:=@Nat.mod_lt
def uE:=@Nat.mod_mod
def wS:=@Nat.mul_add
def wT:=@Nat.mul_assoc
def jS:=@Nat.mul_mod
def oG:=@Nat.mul_pos
def fm:=@Nat.ne_of_lt
def oH:=@Nat.one_mul
def C1:=@Nat.pow_lt_pow_right
def mV:=@Nat.pow_succ
def uF:=@Nat.sub_self
def wU:=@Nat.two_pow_pos
def i7:=@Nat.zero_add
def bo:=@Nat.zero_le
def mW:=@Option.map_eq_some_iff
def bG:=@Option.some.inj
def cM:=@PySem.PassesOwn.never
def C2:=@PyProof.Rows.callWith_type1
def lM:=@PySem.F.plainAttrs_list
def uG:=@PySem.F.slot_list_append
def FM:=@PySem.F.slot_list_extend
def uH:=@PySem.F.type_list_append
def FN:=@PySem.F.type_list_extend
def zO:=@PySem.W.mg_of
def eA:=@PySem.boot_len
def i8:=@PySem.mem_of_lookup
def cA:=@congrArg
def br:=@decide_eq_false
def aE:=@decide_eq_true
def fC:=@decide_eq_true_eq
def bn:=@of_decide_eq_true
def wV:=@PySem.wpAny_Call_Name_kw
def bK:=@PySem.wpAny_bind
def kR:=@PySem.wpAny_mono
def wW:=@PySem.wpAny_passesOwn
def dR:=@PySem.wpAny_pure
def wX:=@PySem.wpAny_truthy_bool
section
theorem fi {p1 p2 p3:Prop}(h1:p1)(h2:p2)(h3:p3):p1∧p2∧p3:=⟨h1,h2,h3⟩
theorem b8 {p1 p2 p3 p4:Prop}(h1:p1)(h2:p2)(h3:p3)(h4:p4):p1∧p2∧p3∧p4:=⟨h1,h2,h3,h4⟩
theorem kQ {p1:Prop}{p2:ta→Prop}(h1:p1)(a:ta)(h2:p2 a):p1∧∃a,p2 a:=⟨h1,a,h2⟩
theorem dt {p1:Prop}{p2 p3:ta→Prop}(h1:p1)(a:ta)(h2:p2 a)(h3:p3 a):p1∧∃a,p2 a∧p3 a:=⟨h1,a,h2,h3⟩
theorem mU {p1:Prop}{p2 p3 p4:ta→Prop}(h1:p1)(a:ta)(h2:p2 a)(h3:p3 a)(h4:p4 a):p1∧∃a,p2 a∧p3 a∧p4 a:=⟨h1,a,h2,h3,h4⟩
theorem bJ {p1 p2:ta→Prop}(a:ta)(h1:p1 a)(h2:p2 a):∃a,p1 a∧p2 a:=⟨a,h1,h2⟩
theorem df {p1 p2 p3:ta→Prop}(a:ta)(h1:p1 a)(h2:p2 a)(h3:p3 a):∃a,p1 a∧p2 a∧p3 a:=⟨a,h1,h2,h3⟩
theorem eQ {p1 p2:ta→Prop}{p3 p4:ta→tb→Prop}(a:ta)(h1:p1 a)(h2:p2 a)(b:tb)(h3:p3 a b)(h4:p4 a b):∃a,p1 a∧p2 a∧∃b,p3 a b∧p4 a b:=⟨a,h1,h2,b,h3,h4⟩
theorem bD {p1:ta→Prop}{p2 p3:ta→tb→Prop}(a:ta)(h1:p1 a)(b:tb)(h2:p2 a b)(h3:p3 a b):∃a,p1 a∧∃b,p2 a b∧p3 a b:=⟨a,h1,b,h2,h3⟩
theorem pO {p1:ta→Prop}{p2 p3 p4:ta→tb→Prop}(a:ta)(h1:p1 a)(b:tb)(h2:p2 a b)(h3:p3 a b)(h4:p4 a b):∃a,p1 a∧∃b,p2 a b∧p3 a b∧p4 a b:=⟨a,h1,b,h2,h3,h4⟩
theorem sY {p1:ta→Prop}{p2 p3 p4 p5:ta→tb→Prop}(a:ta)(h1:p1 a)(b:tb)(h2:p2 a b)(h3:p3 a b)(h4:p4 a b)(h5:p5 a b):∃a,p1 a∧∃b,p2 a b∧p3 a b∧p4 a b∧p5 a b:=⟨a,h1,b,h2,h3,h4,h5⟩
theorem bd {p1:ta→Prop}{p2:ta→tb→Prop}{p3 p4:ta→tb→tc→Prop}(a:ta)(h1:p1 a)(b:tb)(h2:p2 a b)(c:tc)(h3:p3 a b c)(h4:p4 a b c):∃a,p1 a∧∃b,p2 a b∧∃c,p3 a b c∧p4 a b c:=⟨a,h1,b,h2,c,h3,h4⟩
theorem DQ {p1:ta→Prop}{p2:ta→tb→Prop}{p3:ta→tb→tc→Prop}{p4:ta→tb→tc→td→Prop}{p5:ta→tb→tc→td→te→Prop}{p6:ta→tb→tc→td→te→tf→tg→Prop}(a:ta)(h1:p1 a)(b:tb)(h2:p2 a b)(c:tc)(h3:p3 a b c)(d:td)(h4:p4 a b c d)(e:te)(h5:p5 a b c d e)(f:tf)(g:tg)(h6:p6 a b c d e f g):∃a,p1 a∧∃b,p2 a b∧∃c,p3 a b c∧∃d,p4 a b c d∧∃e,p5 a b c d e∧∃f,∃g,p6 a b c d e f g:=⟨a,h1,b,h2,c,h3,d,h4,e,h5,f,g,h6⟩
theorem i3 {p1:ta→Prop}{p2:ta→tb→Prop}{p3:ta→tb→tc→Prop}{p4 p5:ta→tb→tc→td→te→tf→Prop}(a:ta)(h1:p1 a)(b:tb)(h2:p2 a b)(c:tc)(h3:p3 a b c)(d:td)(e:te)(f:tf)(h4:p4 a b c d e f)(h5:p5 a b c d e f):∃a,p1 a∧∃b,p2 a b∧∃c,p3 a b c∧∃d,∃e,∃f,p4 a b c d e f∧p5 a b c d e f:=⟨a,h1,b,h2,c,h3,d,e,f,h4,h5⟩
theorem eY {p1:ta→Prop}{p2:ta→tb→Prop}{p3 p4 p5:ta→tb→tc→td→Prop}(a:ta)(h1:p1 a)(b:tb)(h2:p2 a b)(c:tc)(d:td)(h3:p3 a b c d)(h4:p4 a b c d)(h5:p5 a b c d):∃a,p1 a∧∃b,p2 a b∧∃c,∃d,p3 a b c d∧p4 a b c d∧p5 a b c d:=⟨a,h1,b,h2,c,d,h3,h4,h5⟩
theorem pP {p1:ta→Prop}{p2:ta→tb→Prop}{p3 p4 p5 p6 p7 p8:ta→tb→tc→td→te→tf→Prop}(a:ta)(h1:p1 a)(b:tb)(h2:p2 a b)(c:tc)(d:td)(e:te)(f:tf)(h3:p3 a b c d e f)(h4:p4 a b c d e f)(h5:p5 a b c d e f)(h6:p6 a b c d e f)(h7:p7 a b c d e f)(h8:p8 a b c d e f):∃a,p1 a∧∃b,p2 a b∧∃c,∃d,∃e,∃f,p3 a b c d e f∧p4 a b c d e f∧p5 a b c d e f∧p6 a b c d e f∧p7 a b c d e f∧p8 a b c d e f:=⟨a,h1,b,h2,c,d,e,f,h3,h4,h5,h6,h7,h8⟩
theorem i4 {p1:ta→Prop}{p2:ta→tb→Prop}{p3 p4 p5 p6 p7 p8:ta→tb→tc→td→te→tf→tg→Prop}(a:ta)(h1:p1 a)(b:tb)(h2:p2 a b)(c:tc)(d:td)(e:te)(f:tf)(g:tg)(h3:p3 a b c d e f g)(h4:p4 a b c d e f g)(h5:p5 a b c d e f g)(h6:p6 a b c d e f g)(h7:p7 a b c d e f g)(h8:p8 a b c d e f g):∃a,p1 a∧∃b,p2 a b∧∃c,∃d,∃e,∃f,∃g,p3 a b c d e f g∧p4 a b c d e f g∧p5 a b c d e f g∧p6 a b c d e f g∧p7 a b c d e f g∧p8 a b c d e f g:=⟨a,h1,b,h2,c,d,e,f,g,h3,h4,h5,h6,h7,h8⟩
theorem fB {p1:ta→Prop}{p2:ta→tb→tc→Prop}(a:ta)(h1:p1 a)(b:tb)(c:tc)(h2:p2 a b c):∃a,p1 a∧∃b,∃c,p2 a b c:=⟨a,h1,b,c,h2⟩
theorem cy {p1:ta→Prop}{p2 p3 p4:ta→tb→tc→Prop}(a:ta)(h1:p1 a)(b:tb)(c:tc)(h2:p2 a b c)(h3:p3 a b c)(h4:p4 a b c):∃a,p1 a∧∃b,∃c,p2 a b c∧p3 a b c∧p4 a b c:=⟨a,h1,b,c,h2,h3,h4⟩
theorem eu {p1:ta→Prop}{p2 p3 p4 p5:ta→tb→tc→Prop}(a:ta)(h1:p1 a)(b:tb)(c:tc)(h2:p2 a b c)(h3:p3 a b c)(h4:p4 a b c)(h5:p5 a b c):∃a,p1 a∧∃b,∃c,p2 a b c∧p3 a b c∧p4 a b c∧p5 a b c:=⟨a,h1,b,c,h2,h3,h4,h5⟩
theorem lA {p1:ta→Prop}{p2 p3:ta→tb→tc→Prop}{p4 p5:ta→tb→tc→td→Prop}(a:ta)(h1:p1 a)(b:tb)(c:tc)(h2:p2 a b c)(h3:p3 a b c)(d:td)(h4:p4 a b c d)(h5:p5 a b c d):∃a,p1 a∧∃b,∃c,p2 a b c∧p3 a b c∧∃d,p4 a b c d∧p5 a b c d:=⟨a,h1,b,c,h2,h3,d,h4,h5⟩
theorem cP {p1:ta→Prop}{p2 p3 p4 p5:ta→tb→tc→td→Prop}(a:ta)(h1:p1 a)(b:tb)(c:tc)(d:td)(h2:p2 a b c d)(h3:p3 a b c d)(h4:p4 a b c d)(h5:p5 a b c d):∃a,p1 a∧∃b,∃c,∃d,p2 a b c d∧p3 a b c d∧p4 a b c d∧p5 a b c d:=⟨a,h1,b,c,d,h2,h3,h4,h5⟩
theorem bQ {p1:ta→Prop}{p2 p3 p4 p5 p6:ta→tb→tc→td→te→Prop}(a:ta)(h1:p1 a)(b:tb)(c:tc)(d:td)(e:te)(h2:p2 a b c d e)(h3:p3 a b c d e)(h4:p4 a b c d e)(h5:p5 a b c d e)(h6:p6 a b c d e):∃a,p1 a∧∃b,∃c,∃d,∃e,p2 a b c d e∧p3 a b c d e∧p4 a b c d e∧p5 a b c d e∧p6 a b c d e:=⟨a,h1,b,c,d,e,h2,h3,h4,h5,h6⟩
theorem gP {p1:ta→Prop}{p2 p3 p4 p5 p6 p7:ta→tb→tc→td→te→Prop}(a:ta)(h1:p1 a)(b:tb)(c:tc)(d:td)(e:te)(h2:p2 a b c d e)(h3:p3 a b c d e)(h4:p4 a b c d e)(h5:p5 a b c d e)(h6:p6 a b c d e)(h7:p7 a b c d e):∃a,p1 a∧∃b,∃c,∃d,∃e,p2 a b c d e∧p3 a b c d e∧p4 a b c d e∧p5 a b c d e∧p6 a b c d e∧p7 a b c d e:=⟨a,h1,b,c,d,e,h2,h3,h4,h5,h6,h7⟩
theorem fj {p1:ta→Prop}{p2 p3 p4 p5:ta→tb→tc→td→te→Prop}{p6 p7 p8:ta→tb→tc→td→te→tf→tg→Prop}(a:ta)(h1:p1 a)(b:tb)(c:tc)(d:td)(e:te)(h2:p2 a b c d e)(h3:p3 a b c d e)(h4:p4 a b c d e)(h5:p5 a b c d e)(f:tf)(g:tg)(h6:p6 a b c d e f g)(h7:p7 a b c d e f g)(h8:p8 a b c d e f g):∃a,p1 a∧∃b,∃c,∃d,∃e,p2 a b c d e∧p3 a b c d e∧p4 a b c d e∧p5 a b c d e∧∃f,∃g,p6 a b c d e f g∧p7 a b c d e f g∧p8 a b c d e f g:=⟨a,h1,b,c,d,e,h2,h3,h4,h5,f,g,h6,h7,h8⟩
theorem aM {p1:ta→Prop}{p2 p3 p4 p5 p6 p7:ta→tb→tc→td→te→tf→Prop}(a:ta)(h1:p1 a)(b:tb)(c:tc)(d:td)(e:te)(f:tf)(h2:p2 a b c d e f)(h3:p3 a b c d e f)(h4:p4 a b c d e f)(h5:p5 a b c d e f)(h6:p6 a b c d e f)(h7:p7 a b c d e f):∃a,p1 a∧∃b,∃c,∃d,∃e,∃f,p2 a b c d e f∧p3 a b c d e f∧p4 a b c d e f∧p5 a b c d e f∧p6 a b c d e f∧p7 a b c d e f:=⟨a,h1,b,c,d,e,f,h2,h3,h4,h5,h6,h7⟩
theorem oE {p1:ta→tb→Prop}(a:ta)(b:tb)(h1:p1 a b):∃a,∃b,p1 a b:=⟨a,b,h1⟩
theorem cK {p1 p2:ta→tb→Prop}(a:ta)(b:tb)(h1:p1 a b)(h2:p2 a b):∃a,∃b,p1 a b∧p2 a b:=⟨a,b,h1,h2⟩
theorem bV {p1 p2 p3:ta→tb→Prop}(a:ta)(b:tb)(h1:p1 a b)(h2:p2 a b)(h3:p3 a b):∃a,∃b,p1 a b∧p2 a b∧p3 a b:=⟨a,b,h1,h2,h3⟩
theorem bR {p1 p2 p3 p4:ta→tb→Prop}(a:ta)(b:tb)(h1:p1 a b)(h2:p2 a b)(h3:p3 a b)(h4:p4 a b):∃a,∃b,p1 a b∧p2 a b∧p3 a b∧p4 a b:=⟨a,b,h1,h2,h3,h4⟩
theorem jt {p1 p2 p3:ta→tb→Prop}{p4 p5 p6:ta→tb→tc→td→Prop}(a:ta)(b:tb)(h1:p1 a b)(h2:p2 a b)(h3:p3 a b)(c:tc)(d:td)(h4:p4 a b c d)(h5:p5 a b c d)(h6:p6 a b c d):∃a,∃b,p1 a b∧p2 a b∧p3 a b∧∃c,∃d,p4 a b c d∧p5 a b c d∧p6 a b c d:=⟨a,b,h1,h2,h3,c,d,h4,h5,h6⟩
theorem h9 {p1 p2 p3:ta→tb→tc→Prop}(a:ta)(b:tb)(c:tc)(h1:p1 a b c)(h2:p2 a b c)(h3:p3 a b c):∃a,∃b,∃c,p1 a b c∧p2 a b c∧p3 a b c:=⟨a,b,c,h1,h2,h3⟩
theorem bY {p1 p2 p3 p4:ta→tb→tc→Prop}(a:ta)(b:tb)(c:tc)(h1:p1 a b c)(h2:p2 a b c)(h3:p3 a b c)(h4:p4 a b c):∃a,∃b,∃c,p1 a b c∧p2 a b c∧p3 a b c∧p4 a b c:=⟨a,b,c,h1,h2,h3,h4⟩
theorem i5 {p1 p2 p3 p4 p5:ta→tb→tc→Prop}(a:ta)(b:tb)(c:tc)(h1:p1 a b c)(h2:p2 a b c)(h3:p3 a b c)(h4:p4 a b c)(h5:p5 a b c):∃a,∃b,∃c,p1 a b c∧p2 a b c∧p3 a b c∧p4 a b c∧p5 a b c:=⟨a,b,c,h1,h2,h3,h4,h5⟩
theorem j4 {p1 p2 p3 p4 p5:ta→tb→tc→td→Prop}(a:ta)(b:tb)(c:tc)(d:td)(h1:p1 a b c d)(h2:p2 a b c d)(h3:p3 a b c d)(h4:p4 a b c d)(h5:p5 a b c d):∃a,∃b,∃c,∃d,p1 a b c d∧p2 a b c d∧p3 a b c d∧p4 a b c d∧p5 a b c d:=⟨a,b,c,d,h1,h2,h3,h4,h5⟩
theorem j5 {p1 p2 p3 p4 p5 p6:ta→tb→tc→td→Prop}(a:ta)(b:tb)(c:tc)(d:td)(h1:p1 a b c d)(h2:p2 a b c d)(h3:p3 a b c d)(h4:p4 a b c d)(h5:p5 a b c d)(h6:p6 a b c d):∃a,∃b,∃c,∃d,p1 a b c d∧p2 a b c d∧p3 a b c d∧p4 a b c d∧p5 a b c d∧p6 a b c d:=⟨a,b,c,d,h1,h2,h3,h4,h5,h6⟩
theorem iK {p1 p2 p3 p4 p5 p6:ta→tb→tc→td→te→Prop}(a:ta)(b:tb)(c:tc)(d:td)(e:te)(h1:p1 a b c d e)(h2:p2 a b c d e)(h3:p3 a b c d e)(h4:p4 a b c d e)(h5:p5 a b c d e)(h6:p6 a b c d e):∃a,∃b,∃c,∃d,∃e,p1 a b c d e∧p2 a b c d e∧p3 a b c d e∧p4 a b c d e∧p5 a b c d e∧p6 a b c d e:=⟨a,b,c,d,e,h1,h2,h3,h4,h5,h6⟩
theorem ju {p1 p2 p3 p4 p5 p6 p7:ta→tb→tc→td→te→tf→Prop}(a:ta)(b:tb)(c:tc)(d:td)(e:te)(f:tf)(h1:p1 a b c d e f)(h2:p2 a b c d e f)(h3:p3 a b c d e f)(h4:p4 a b c d e f)(h5:p5 a b c d e f)(h6:p6 a b c d e f)(h7:p7 a b c d e f):∃a,∃b,∃c,∃d,∃e,∃f,p1 a b c d e f∧p2 a b c d e f∧p3 a b c d e f∧p4 a b c d e f∧p5 a b c d e f∧p6 a b c d e f∧p7 a b c d e f:=⟨a,b,c,d,e,f,h1,h2,h3,h4,h5,h6,h7⟩
theorem wQ {p1:ta→tb→tc→td→te→tf→tg→th→Prop}(a:ta)(b:tb)(c:tc)(d:td)(e:te)(f:tf)(g:tg)(h:th)(h1:p1 a b c d e f g h):∃a,∃b,∃c,∃d,∃e,∃f,∃g,∃h,p1 a b c d e f g h:=⟨a,b,c,d,e,f,g,h,h1⟩
theorem im {p1 p2 p3 p4:ta→tb→tc→td→te→tf→tg→th→ti→tj→tk→Prop}(a:ta)(b:tb)(c:tc)(d:td)(e:te)(f:tf)(g:tg)(h:th)(i:ti)(j:tj)(k:tk)(h1:p1 a b c d e f g h i j k)(h2:p2 a b c d e f g h i j k)(h3:p3 a b c d e f g h i j k)(h4:p4 a b c d e f g h i j k):∃a,∃b,∃c,∃d,∃e,∃f,∃g,∃h,∃i,∃j,∃k,p1 a b c d e f g h i j k∧p2 a b c d e f g h i j k∧p3 a b c d e f g h i j k∧p4 a b c d e f g h i j k:=⟨a,b,c,d,e,f,g,h,i,j,k,h1,h2,h3,h4⟩
end
section
theorem gk {p1 p2 p3:Prop}{C:Prop}(k:p1→p2→p3→C):(p1∧p2∧p3)→C:=by rintro⟨h1,h2,h3⟩;exact k h1 h2 h3
theorem nl {p1 p2 p3 p4:Prop}{C:Prop}(k:p1→p2→p3→p4→C):(p1∧p2∧p3∧p4)→C:=by rintro⟨h1,h2,h3,h4⟩;exact k h1 h2 h3 h4
theorem rA {p1 p2 p3 p4 p5 p6:Prop}{C:Prop}(k:p1→p2→p3→p4→p5→p6→C):(p1∧p2∧p3∧p4∧p5∧p6)→C:=by rintro⟨h1,h2,h3,h4,h5,h6⟩;exact k h1 h2 h3 h4 h5 h6
theorem NX {p1 p2:Prop}{p3:ta→tb→tc→Prop}{C:Prop}(k:p1→p2→∀a,∀b,∀c,p3 a b c→C):(p1∧p2∧∃a,∃b,∃c,p3 a b c)→C:=by rintro⟨h1,h2,a,b,c,h3⟩;exact k h1 h2 a b c h3
theorem NY {p1:Prop}{p2:ta→Prop}{C:Prop}(k:p1→∀a,p2 a→C):(p1∧∃a,p2 a)→C:=by rintro⟨h1,a,h2⟩;exact k h1 a h2
theorem pQ {p1:Prop}{p2 p3 p4:ta→Prop}{C:Prop}(k:p1→∀a,p2 a→p3 a→p4 a→C):(p1∧∃a,p2 a∧p3 a∧p4 a)→C:=by rintro⟨h1,a,h2,h3,h4⟩;exact k h1 a h2 h3 h4
theorem Li {p1:Prop}{p2 p3 p4:ta→tb→Prop}{C:Prop}(k:p1→∀a,∀b,p2 a b→p3 a b→p4 a b→C):(p1∧∃a,∃b,p2 a b∧p3 a b∧p4 a b)→C:=by rintro⟨h1,a,b,h2,h3,h4⟩;exact k h1 a b h2 h3 h4
theorem Pe {p1:Prop}{p2 p3 p4 p5:ta→tb→tc→td→te→tf→Prop}{C:Prop}(k:p1→∀a,∀b,∀c,∀d,∀e,∀f,p2 a b c d e f→p3 a b c d e f→p4 a b c d e f→p5 a b c d e f→C):(p1∧∃a,∃b,∃c,∃d,∃e,∃f,p2 a b c d e f∧p3 a b c d e f∧p4 a b c d e f∧p5 a b c d e f)→C:=by rintro⟨h1,a,b,c,d,e,f,h2,h3,h4,h5⟩;exact k h1 a b c d e f h2 h3 h4 h5
theorem a4 {p1 p2:ta→Prop}{C:Prop}(k:∀a,p1 a→p2 a→C):(∃a,p1 a∧p2 a)→C:=by rintro⟨a,h1,h2⟩;exact k a h1 h2
theorem lB {p1 p2 p3:ta→Prop}{C:Prop}(k:∀a,p1 a→p2 a→p3 a→C):(∃a,p1 a∧p2 a∧p3 a)→C:=by rintro⟨a,h1,h2,h3⟩;exact k a h1 h2 h3
theorem NZ {p1 p2 p3 p4:ta→Prop}{C:Prop}(k:∀a,p1 a→p2 a→p3 a→p4 a→C):(∃a,p1 a∧p2 a∧p3 a∧p4 a)→C:=by rintro⟨a,h1,h2,h3,h4⟩;exact k a h1 h2 h3 h4
theorem MU {p1 p2 p3 p4 p5:ta→Prop}{C:Prop}(k:∀a,p1 a→p2 a→p3 a→p4 a→p5 a→C):(∃a,p1 a∧p2 a∧p3 a∧p4 a∧p5 a)→C:=by rintro⟨a,h1,h2,h3,h4,h5⟩;exact k a h1 h2 h3 h4 h5
theorem Bf {p1:ta→tb→Prop}{C:Prop}(k:∀a,∀b,p1 a b→C):(∃a,∃b,p1 a b)→C:=by rintro⟨a,b,h1⟩;exact k a b h1
theorem rB {p1 p2:ta→tb→Prop}{C:Prop}(k:∀a,∀b,p1 a b→p2 a b→C):(∃a,∃b,p1 a b∧p2 a b)→C:=by rintro⟨a,b,h1,h2⟩;exact k a b h1 h2
theorem yw {p1 p2 p3:ta→tb→Prop}{C:Prop}(k:∀a,∀b,p1 a b→p2 a b→p3 a b→C):(∃a,∃b,p1 a b∧p2 a b∧p3 a b)→C:=by rintro⟨a,b,h1,h2,h3⟩;exact k a b h1 h2 h3
theorem tp {p1 p2 p3 p4:ta→tb→Prop}{C:Prop}(k:∀a,∀b,p1 a b→p2 a b→p3 a b→p4 a b→C):(∃a,∃b,p1 a b∧p2 a b∧p3 a b∧p4 a b)→C:=by rintro⟨a,b,h1,h2,h3,h4⟩;exact k a b h1 h2 h3 h4
theorem io {p1 p2 p3 p4 p5:ta→tb→Prop}{C:Prop}(k:∀a,∀b,p1 a b→p2 a b→p3 a b→p4 a b→p5 a b→C):(∃a,∃b,p1 a b∧p2 a b∧p3 a b∧p4 a b∧p5 a b)→C:=by rintro⟨a,b,h1,h2,h3,h4,h5⟩;exact k a b h1 h2 h3 h4 h5
theorem Pg {p1:ta→tb→tc→Prop}{C:Prop}(k:∀a,∀b,∀c,p1 a b c→C):(∃a,∃b,∃c,p1 a b c)→C:=by rintro⟨a,b,c,h1⟩;exact k a b c h1
theorem tq {p1 p2:ta→tb→tc→Prop}{C:Prop}(k:∀a,∀b,∀c,p1 a b c→p2 a b c→C):(∃a,∃b,∃c,p1 a b c∧p2 a b c)→C:=by rintro⟨a,b,c,h1,h2⟩;exact k a b c h1 h2
theorem d7 {p1 p2 p3:ta→tb→tc→Prop}{C:Prop}(k:∀a,∀b,∀c,p1 a b c→p2 a b c→p3 a b c→C):(∃a,∃b,∃c,p1 a b c∧p2 a b c∧p3 a b c)→C:=by rintro⟨a,b,c,h1,h2,h3⟩;exact k a b c h1 h2 h3
theorem CZ {p1 p2 p3 p4:ta→tb→tc→Prop}{C:Prop}(k:∀a,∀b,∀c,p1 a b c→p2 a b c→p3 a b c→p4 a b c→C):(∃a,∃b,∃c,p1 a b c∧p2 a b c∧p3 a b c∧p4 a b c)→C:=by rintro⟨a,b,c,h1,h2,h3,h4⟩;exact k a b c h1 h2 h3 h4
theorem DR {p1 p2 p3 p4 p5:ta→tb→tc→Prop}{C:Prop}(k:∀a,∀b,∀c,p1 a b c→p2 a b c→p3 a b c→p4 a b c→p5 a b c→C):(∃a,∃b,∃c,p1 a b c∧p2 a b c∧p3 a b c∧p4 a b c∧p5 a b c)→C:=by rintro⟨a,b,c,h1,h2,h3,h4,h5⟩;exact k a b c h1 h2 h3 h4 h5
theorem FK {p1 p2 p3 p4 p5 p6:ta→tb→tc→Prop}{C:Prop}(k:∀a,∀b,∀c,p1 a b c→p2 a b c→p3 a b c→p4 a b c→p5 a b c→p6 a b c→C):(∃a,∃b,∃c,p1 a b c∧p2 a b c∧p3 a b c∧p4 a b c∧p5 a b c∧p6 a b c)→C:=by rintro⟨a,b,c,h1,h2,h3,h4,h5,h6⟩;exact k a b c h1 h2 h3 h4 h5 h6
theorem Ja {p1 p2 p3:ta→tb→tc→td→Prop}{C:Prop}(k:∀a,∀b,∀c,∀d,p1 a b c d→p2 a b c d→p3 a b c d→C):(∃a,∃b,∃c,∃d,p1 a b c d∧p2 a b c d∧p3 a b c d)→C:=by rintro⟨a,b,c,d,h1,h2,h3⟩;exact k a b c d h1 h2 h3
theorem oF {p1 p2 p3 p4:ta→tb→tc→td→Prop}{C:Prop}(k:∀a,∀b,∀c,∀d,p1 a b c d→p2 a b c d→p3 a b c d→p4 a b c d→C):(∃a,∃b,∃c,∃d,p1 a b c d∧p2 a b c d∧p3 a b c d∧p4 a b c d)→C:=by rintro⟨a,b,c,d,h1,h2,h3,h4⟩;exact k a b c d h1 h2 h3 h4
theorem MV {p1 p2 p3 p4 p5 p6:ta→tb→tc→td→Prop}{C:Prop}(k:∀a,∀b,∀c,∀d,p1 a b c d→p2 a b c d→p3 a b c d→p4 a b c d→p5 a b c d→p6 a b c d→C):(∃a,∃b,∃c,∃d,p1 a b c d∧p2 a b c d∧p3 a b c d∧p4 a b c d∧p5 a b c d∧p6 a b c d)→C:=by rintro⟨a,b,c,d,h1,h2,h3,h4,h5,h6⟩;exact k a b c d h1 h2 h3 h4 h5 h6
theorem MW {p1 p2 p3 p4 p5 p6 p7:ta→tb→tc→td→Prop}{C:Prop}(k:∀a,∀b,∀c,∀d,p1 a b c d→p2 a b c d→p3 a b c d→p4 a b c d→p5 a b c d→p6 a b c d→p7 a b c d→C):(∃a,∃b,∃c,∃d,p1 a b c d∧p2 a b c d∧p3 a b c d∧p4 a b c d∧p5 a b c d∧p6 a b c d∧p7 a b c d)→C:=by rintro⟨a,b,c,d,h1,h2,h3,h4,h5,h6,h7⟩;exact k a b c d h1 h2 h3 h4 h5 h6 h7
theorem FL {p1 p2 p3 p4 p5 p6:ta→tb→tc→td→te→Prop}{C:Prop}(k:∀a,∀b,∀c,∀d,∀e,p1 a b c d e→p2 a b c d e→p3 a b c d e→p4 a b c d e→p5 a b c d e→p6 a b c d e→C):(∃a,∃b,∃c,∃d,∃e,p1 a b c d e∧p2 a b c d e∧p3 a b c d e∧p4 a b c d e∧p5 a b c d e∧p6 a b c d e)→C:=by rintro⟨a,b,c,d,e,h1,h2,h3,h4,h5,h6⟩;exact k a b c d e h1 h2 h3 h4 h5 h6
theorem lC {p1:ta→tb→tc→td→te→tf→Prop}{C:Prop}(k:∀a,∀b,∀c,∀d,∀e,∀f,p1 a b c d e f→C):(∃a,∃b,∃c,∃d,∃e,∃f,p1 a b c d e f)→C:=by rintro⟨a,b,c,d,e,f,h1⟩;exact k a b c d e f h1
theorem Bg {p1 p2 p3 p4 p5 p6 p7:ta→tb→tc→td→te→tf→Prop}{C:Prop}(k:∀a,∀b,∀c,∀d,∀e,∀f,p1 a b c d e f→p2 a b c d e f→p3 a b c d e f→p4 a b c d e f→p5 a b c d e f→p6 a b c d e f→p7 a b c d e f→C):(∃a,∃b,∃c,∃d,∃e,∃f,p1 a b c d e f∧p2 a b c d e f∧p3 a b c d e f∧p4 a b c d e f∧p5 a b c d e f∧p6 a b c d e f∧p7 a b c d e f)→C:=by rintro⟨a,b,c,d,e,f,h1,h2,h3,h4,h5,h6,h7⟩;exact k a b c d e f h1 h2 h3 h4 h5 h6 h7
theorem Jb {p1 p2 p3 p4 p5 p6 p7:ta→tb→tc→td→te→tf→tg→Prop}{C:Prop}(k:∀a,∀b,∀c,∀d,∀e,∀f,∀g,p1 a b c d e f g→p2 a b c d e f g→p3 a b c d e f g→p4 a b c d e f g→p5 a b c d e f g→p6 a b c d e f g→p7 a b c d e f g→C):(∃a,∃b,∃c,∃d,∃e,∃f,∃g,p1 a b c d e f g∧p2 a b c d e f g∧p3 a b c d e f g∧p4 a b c d e f g∧p5 a b c d e f g∧p6 a b c d e f g∧p7 a b c d e f g)→C:=by rintro⟨a,b,c,d,e,f,g,h1,h2,h3,h4,h5,h6,h7⟩;exact k a b c d e f g h1 h2 h3 h4 h5 h6 h7
theorem jv {p1 p2 p3 p4:ta→tb→tc→td→te→tf→tg→ti→tj→tl→tm→Prop}{C:Prop}(k:∀a,∀b,∀c,∀d,∀e,∀f,∀g,∀i,∀j,∀l,∀m,p1 a b c d e f g i j l m→p2 a b c d e f g i j l m→p3 a b c d e f g i j l m→p4 a b c d e f g i j l m→C):(∃a,∃b,∃c,∃d,∃e,∃f,∃g,∃i,∃j,∃l,∃m,p1 a b c d e f g i j l m∧p2 a b c d e f g i j l m∧p3 a b c d e f g i j l m∧p4 a b c d e f g i j l m)→C:=by rintro⟨a,b,c,d,e,f,g,i,j,l,m,h1,h2,h3,h4⟩;exact k a b c d e f g i j l m h1 h2 h3 h4
theorem bC:1≤PySem.sizeLine:=by decide
theorem rm:2≤PySem.sizeLine:=by decide
end
section
local macro_rules | `(tactic| omega)=>`(tactic| lia)
namespace Lc
open Vbdeab (P A C M)
def Dr (f g:Nat×Nat):Nat×Nat:=(f.1*g.1%P,(g.1*f.2+g.2)%P)
def lG (f:Nat×Nat) (x:Nat):Nat:=(f.1*x+f.2)%P
def pw:Nat→Nat×Nat
 | 0=>(1,0)
 | n+1=>Dr (pw n) (A,C)
theorem Dq:0<P:=by decide
theorem EZ (f:Nat×Nat) (x:Nat):lG f x<P:=i6 _ Dq
theorem F7 (f g:Nat×Nat) (x:Nat):lG (Dr f g) x=lG g (lG f x):=by
 unfold lG Dr
 simp only
 have e1:(f.1*g.1%P*x+(g.1*f.2+g.2)%P)%P=(f.1*g.1*x+(g.1*f.2+g.2))%P:=by
  rw [uM,uE,jS,uE,←jS,←uM]
 have e2:(g.1*((f.1*x+f.2)%P)+g.2)%P=(g.1*(f.1*x+f.2)+g.2)%P:=by
  rw [uM,jS,uE,←jS,←uM]
 rw [e1,e2]
 congr 1
 rw [wS,←wT,Nat.mul_comm g.1 f.1,yA]
theorem Kg (f g h:Nat×Nat):Dr (Dr f g) h=Dr f (Dr g h):=by
 unfold Dr
 simp only
 refine Prod.ext ?_ ?_
 ·show f.1*g.1%P*h.1%P=f.1*(g.1*h.1%P)%P
  rw [jS,uE,←jS,jS f.1,uE,←jS,wT]
 ·show(h.1*((g.1*f.2+g.2)%P)+h.2)%P=(g.1*h.1%P*f.2+(h.1*g.2+h.2)%P)%P
  have e1:(h.1*((g.1*f.2+g.2)%P)+h.2)%P=(h.1*(g.1*f.2+g.2)+h.2)%P:=by
   rw [uM,jS,uE,←jS,←uM]
  have e2:(g.1*h.1%P*f.2+(h.1*g.2+h.2)%P)%P=(g.1*h.1*f.2+(h.1*g.2+h.2))%P:=by
   rw [uM,uE,jS,uE,←jS,←uM]
  rw [e1,e2]
  congr 1
  rw [wS,←wT,Nat.mul_comm g.1 h.1,yA]
def N4 (f:Nat×Nat):Prop:=f.1<P∧f.2<P
theorem Nd (f g:Nat×Nat):N4 (Dr f g):=⟨i6 _ Dq,i6 _ Dq⟩
theorem Jl {f:Nat×Nat} (h:N4 f):Dr f (1,0)=f:=by
 unfold Dr
 simp only [Nat.mul_one,oH,lW]
 rw [rC h.1,rC h.2]
theorem mE:∀n,N4 (pw n)
 | 0=>by unfold N4 pw;decide
 | n+1=>Nd _ _
theorem ow (m:Nat):∀n,pw (m+n)=Dr (pw m) (pw n)
 | 0=>(Jl (mE m)).symm
 | n+1=>by
  show Dr (pw (m+n)) (A,C)=Dr (pw m) (Dr (pw n) (A,C))
  rw [ow m n,Kg]
theorem Mw:pw 1=(A,C):=by decide+kernel
theorem Hq:∀(f n:Nat),n<2 ^ f→Vbdeab.steps f n=pw n
 | 0,n,h=>by
  have:n=0:=by simpa using h
  subst this
  rfl
 | f+1,n,h=>by
  have ih:=Hq f (n /2) (by rw [mV] at h;omega)
  have hd:(((pw (n /2)).1*(pw (n /2)).1%P,((pw (n /2)).1*(pw (n /2)).2+(pw (n /2)).2)%P):Nat×Nat)=pw (n /2+n /2):=by
   rw [ow]
   rfl
  unfold Vbdeab.steps
  simp only [ih]
  rw [hd]
  by_cases q:n%2=1
  ·rw [if_pos q]
   have e:n=(n /2+n /2)+1:=by omega
   conv=>rhs;rw [e]
   show _=Dr (pw (n /2+n /2)) (A,C)
   rw [←hd]
   unfold Dr
   simp only
   rw [Nat.mul_comm A]
  ·rw [if_neg q]
   congr 1
   omega
theorem Bs {n:Nat} (h:n<P) (x:Nat):Vbdeab.skip n x=lG (pw n) x:=by
 unfold Vbdeab.skip
 rw [Hq 64 n h]
 rfl
def sq:Nat→Nat×Nat
 | 0=>(A,C)
 | k+1=>Dr (sq k) (sq k)
theorem JQ:∀k,sq k=pw (2 ^ k)
 | 0=>Mw.symm
 | k+1=>by
  show Dr (sq k) (sq k)=_
  rw [JQ k,←ow]
  congr 1
  rw [mV];omega
theorem QQ:pw P=(1,0):=by
 have h:sq 64=(1,0):=by decide+kernel
 rw [JQ] at h
 exact h
theorem JM:∀k,pw (P*k)=(1,0)
 | 0=>rfl
 | k+1=>by
  rw [Nat.mul_succ,ow,JM k,QQ]
  decide+kernel
theorem OZ (n:Nat):pw (n%P)=pw n:=by
 have e:n=n%P+P*(n /P):=(Nat.mod_add_div n P).symm
 conv=>rhs;rw [e]
 rw [ow,JM,Jl (mE _)]
theorem LX {a b l:Nat} (h:l%2=1):Dr (pw a) (pw b)=pw (a+b)∧a+b+(l /2)*(b+b)=a+l*b:=by
 refine⟨(ow a b).symm,?_⟩
 have e:l=2*(l /2)+1:=by omega
 conv=>rhs;rw [e]
 rw [AD,wS,Nat.mul_right_comm,oH]
 have:2*b*(l /2)=l /2*b+l /2*b:=by rw [wT,Nat.mul_comm b,Nat.two_mul]
 omega
theorem Ky {a b l:Nat} (h:l%2=0):a+(l /2)*(b+b)=a+l*b:=by
 have e:l=2*(l /2):=by omega
 conv=>rhs;rw [e]
 rw [wS,Nat.mul_right_comm]
 have:2*b*(l /2)=l /2*b+l /2*b:=by rw [wT,Nat.mul_comm b,Nat.two_mul]
 omega
theorem O5:∀k,k<64→(sq k).1%2 ^ (k+1)=1%2 ^ (k+1)∧(sq k).2%2 ^ (k+1)=2 ^ k:=by decide+kernel
theorem LV {k:Nat} (hk:k<64) (x:Nat):lG (sq k) x%2 ^ (k+1)=(x+2 ^ k)%2 ^ (k+1):=by
 obtain⟨h1,h2⟩:=O5 k hk
 have hp:P=2 ^ (k+1)*2 ^ (63 - k):=by
  rw [←Nat.pow_add]
  show 2 ^ 64=_
  congr 1
  omega
 unfold lG
 rw [hp,Nat.mod_mul_right_mod,uM,jS,h1,h2,←jS,oH,uM x]
 congr 2
 exact(rC (by rw [mV];have:=wU k;omega)).symm
theorem LZ {k x y:Nat} (h:x%2 ^ k=y%2 ^ k) (hn:x%2 ^ (k+1)≠y%2 ^ (k+1)):(x+2 ^ k)%2 ^ (k+1)=y%2 ^ (k+1):=by
 have hp:=wU k
 have e1:=Nat.mod_pow_succ (b:=2) (k:=k) (x:=x)
 have e2:=Nat.mod_pow_succ (b:=2) (k:=k) (x:=y)
 have b1:x /2 ^ k%2<2:=i6 _ ()
 have b2:y /2 ^ k%2<2:=i6 _ ()
 have r1:x%2 ^ k<2 ^ k:=i6 _ hp
 have r2:(x%2 ^ (k+1))<2 ^ (k+1):=i6 _ (wU _)
 have ps:2 ^ (k+1)=2 ^ k*2:=mV ..
 rw [uM]
 rw [rC (show 2 ^ k<2 ^ (k+1) by omega)]
 rcases (show x /2 ^ k%2=0∨x /2 ^ k%2=1 by omega) with q | q<;>rcases (show y /2 ^ k%2=0∨y /2 ^ k%2=1 by omega) with q' | q'<;>rw [q] at e1<;>rw [q'] at e2
 ·exact absurd ⋯ hn
 ·rw [rC ⋯];omega
 ·rw [Nat.mod_eq_sub_mod ⋯,rC ⋯];omega
 ·exact absurd ⋯ hn
theorem Gc:∀(f k y:Nat),farFrom f k y y=0
 | 0,_,_=>rfl
 | f+1,k,y=>by
  unfold farFrom
  rw [if_pos rfl,Gc f]
theorem OA {f k x y:Nat} (h:x%2 ^ (k+1)=y%2 ^ (k+1)):farFrom (f+1) k x y=farFrom f (k+1) x y:=by
 conv=>lhs;unfold farFrom
 rw [if_pos h]
theorem OC {f k x y:Nat} (hk:k<64) (h:x%2 ^ (k+1)≠y%2 ^ (k+1)):farFrom (f+1) k x y=2 ^ k+farFrom f (k+1) (lG (sq k) x) y:=by
 conv=>lhs;unfold farFrom
 rw [if_neg h,Bs (show 2 ^ k<2 ^ 64 from C1 () hk),←JQ]
theorem Jk {k x y:Nat} (h:x%2 ^ k=y%2 ^ k):x &&& 2 ^ k=y &&& 2 ^ k↔x%2 ^ (k+1)=y%2 ^ (k+1):=by
 have e1:=Nat.mod_pow_succ (b:=2) (k:=k) (x:=x)
 have e2:=Nat.mod_pow_succ (b:=2) (k:=k) (x:=y)
 have b1:∀z,z &&& 2 ^ k=2 ^ k*(z /2 ^ k%2):=fun z=>by
  apply Nat.eq_of_testBit_eq
  intro i
  rw [Nat.testBit_and,Nat.testBit_two_pow,Nat.testBit_two_pow_mul]
  by_cases hi:k=i
  ·subst hi
   simp [Nat.testBit,Nat.shiftRight_eq_div_pow]
  ·by_cases hik:k≤i
   ·have:(z /2 ^ k%2).testBit (i - k)=false:=by
     apply Nat.testBit_lt_two_pow
     have:2 ^ 1≤2 ^ (i - k):=Nat.pow_le_pow_right () ⋯
     omega
    simp [hi,this]
   ·simp [hi,hik]
 have hp:=wU k
 rw [b1,b1,e1,e2,h]
 constructor
 ·intro q;rw [q]
 ·intro q;exact Nat.add_left_cancel q
theorem NR {k x y:Nat} (hk:k<64) (h:x%2 ^ k=y%2 ^ k) (hn:x%2 ^ (k+1)≠y%2 ^ (k+1)):lG (sq k) x%2 ^ (k+1)=y%2 ^ (k+1):=by
 rw [LV hk,LZ h hn]
theorem BI:∀(f k x y:Nat),farFrom f k x y*1+2 ^ k≤2 ^ (k+f)
 | 0,k,x,y=>by
  unfold farFrom
  rw [lW,Nat.zero_mul,i7]
  exact bq _
 | f+1,k,x,y=>by
  have ih:=BI f (k+1)
  have e:2 ^ (k+1)=2 ^ k+2 ^ k:=by rw [mV];omega
  have e2:k+(f+1)=k+1+f:=by omega
  unfold farFrom
  rw [e2]
  split
  ·have:=ih x y
   omega
  ·have:=ih (Vbdeab.skip (2 ^ k) x) y
   omega
theorem OB (x y:Nat):Vbdeab.far x y<P:=by
 have h:=BI 64 0 x y
 unfold Vbdeab.far
 show _<2 ^ 64
 omega
theorem Lu {x y:Nat} (hx:x<P) (hy:y<P) (h:x%2 ^ 64=y%2 ^ 64):x=y:=by
 have e1:x%2 ^ 64=x:=rC hx
 have e2:y%2 ^ 64=y:=rC hy
 rw [e1,e2] at h
 exact h
end Lc
end
section
namespace Ch
open Vbdeab (M)
theorem sum_nil:Vbdeab.sum []=0:=rfl
theorem sum_cons (a:Nat) (l:List Nat):Vbdeab.sum (a::l)=a+Vbdeab.sum l:=rfl
theorem sum_append:∀(l r:List Nat),Vbdeab.sum (l++r)=Vbdeab.sum l+Vbdeab.sum r
 | [],r=>by rw [HJ,sum_nil,i7]
 | a::l,r=>by rw [HD,sum_cons,sum_cons,sum_append l r,yA]
theorem bA {α:Type} {l:List α} {i:Nat} {x:α} (h:l[i]?=some x):l.take (i+1)=l.take i++ [x]:=by
 rw [List.take_add_one,h]
 rfl
theorem yK {α:Type} {l:List α} {i:Nat} {x:α} (h:l[i]?=some x):l.drop i=x::l.drop (i+1):=by
 obtain⟨hi,e⟩:=cg.mp h
 rw [List.drop_eq_getElem_cons hi,e]
theorem eC {l:List Nat} {i x:Nat} (h:l[i]?=some x):Vbdeab.sum (l.take (i+1))=Vbdeab.sum (l.take i)+x:=by
 rw [bA h,sum_append]
 rfl
structure EK (ws:List Nat) (x i:Nat):Prop where
 lt:i<ws.length
 eq:place ws x 0=i+place (ws.drop i) x (Vbdeab.sum (ws.take i))
theorem EK.start {ws:List Nat} {x:Nat} (h:0<ws.length):EK ws x 0:=⟨h,by simp [sum_nil]⟩
theorem EK.stop {ws:List Nat} {x i:Nat} (s:EK ws x i) (h:x<M*Vbdeab.sum (ws.take (i+1))):place ws x 0=i:=by
 obtain⟨lt,eq⟩:=s
 have e:ws[i]?=some ws[i]:=bH lt
 rw [eq,yK e]
 unfold place
 rw [if_pos (by rw [eC e] at h;exact h)]
 all_goals rfl
theorem EK.next {ws:List Nat} {x i:Nat} (s:EK ws x i) (hx:x<M*Vbdeab.sum ws) (h:M*Vbdeab.sum (ws.take (i+1))≤x):EK ws x (i+1):=by
 obtain⟨lt,eq⟩:=s
 have e:ws[i]?=some ws[i]:=bH lt
 refine⟨?_,?_⟩
 ·rcases sO (i+1) ws.length with q | q
  ·exact q
  ·rw [lD q] at h
   exact absurd hx (Nat.not_lt.mpr h)
 ·rw [eq,yK e]
  conv=>lhs;unfold place
  rw [if_neg (by rw [eC e] at h;exact Nat.not_lt.mpr h),eC e]
  omega
theorem JB {ws:List Nat} {u:Nat} (hu:u<M) (hw:0<Vbdeab.sum ws):u*Vbdeab.sum ws<M*Vbdeab.sum ws:=Nat.mul_lt_mul_of_pos_right hu hw
theorem dC (s:Stream):Vbdeab.raws 0 s=(s,[]):=by rw [Vbdeab.raws]
theorem u0 (n:Nat) (s:Stream):Vbdeab.raws (n+1) s=((Vbdeab.raws n (Vbdeab.raw s).1).1,(Vbdeab.raw s).2::(Vbdeab.raws n (Vbdeab.raw s).1).2):=by rw [Vbdeab.raws]
theorem fW:∀(n:Nat) (s:Stream),Vbdeab.raws (n+1) s=((Vbdeab.raw (Vbdeab.raws n s).1).1,(Vbdeab.raws n s).2++ [(Vbdeab.raw (Vbdeab.raws n s).1).2])
 | 0,s=>by rw [u0,dC,dC,HJ]
 | n+1,s=>by
  rw [u0 (n+1),fW n (Vbdeab.raw s).1,u0 n,HD]
theorem gF:∀(n:Nat) (s:Stream),(Vbdeab.raws n s).2.length=n
 | 0,s=>by rw [dC];exact List.length_nil
 | n+1,s=>by
  rw [u0,d8,gF n]
theorem wq {s:Stream}:(Vbdeab.raw s).2<M:=by
 have h:Vbdeab.next s.state<Vbdeab.P:=i6 _ ()
 have h2:Vbdeab.next s.state /M<M:=Nat.div_lt_of_lt_mul h
 have hM:0<M:=by decide
 unfold Vbdeab.raw Stream.number Vbdeab.out
 simp only
 generalize Vbdeab.next s.state /M=q at h2
 generalize M=m at*
 split<;>omega
theorem ET (l:List Int) (i j:Nat):(exchange l i j).length=l.length:=by
 unfold exchange
 simp
theorem hX (n:Nat):∀(us:List Nat) (i:Nat) (l:List Int),(shuffled n us i l).length=l.length
 | [],_,_=>rfl
 | u::r,i,l=>by
  unfold shuffled
  rw [hX n r,ET]
theorem vQ (n u:Nat):∀(us:List Nat) (i:Nat) (l:List Int),shuffled n (us++ [u]) i l=exchange (shuffled n us i l) (i+us.length) (i+us.length+u*(n - (i+us.length)) /M)
 | [],i,l=>rfl
 | v::r,i,l=>by
  show shuffled n (r++ [u]) (i+1) _=_
  rw [vQ n u r]
  have e:i+1+r.length=i+(v::r).length:=by rw [d8];omega
  rw [e]
  rfl
theorem GP (n:Nat):(ramp n).length=n:=by
 unfold ramp
 simp
theorem Ms {n i u:Nat} (hi:i<n) (hu:u<M):i+u*(n - i) /M<n:=by
 have h:u*(n - i) /M<n - i:=Nat.div_lt_of_lt_mul (Nat.mul_lt_mul_of_pos_right hu ⋯)
 omega
end Ch
end
section
namespace Fr
open Vbdeab (Q mkQ)
theorem Ni {n:Int} {d:Nat} (h:0<d):0<Nat.gcd n.natAbs d:=HL _ h
theorem xx {n:Int} {d:Nat} (h:0<d):∃g:Nat,0<g∧n=(mkQ n d).num*(g:Int)∧d=(mkQ n d).den*g∧Nat.gcd (mkQ n d).num.natAbs (mkQ n d).den=1:=by
 have hg:=Ni (n:=n) h
 refine⟨Nat.gcd n.natAbs d,hg,?_,?_,?_⟩
 ·show n=n /(Nat.gcd n.natAbs d:Nat)*_
  rw [Int.ediv_mul_cancel]
  exact Int.ofNat_dvd_left.mpr (vV _ _)
 ·show d=d /Nat.gcd n.natAbs d*_
  rw [Nat.div_mul_cancel (jk _ _)]
 ·show Nat.gcd (n /(Nat.gcd n.natAbs d:Nat)).natAbs (d /Nat.gcd n.natAbs d)=1
  rw [Int.natAbs_ediv_of_dvd (Int.ofNat_dvd_left.mpr (vV _ _)),kr]
  exact Nat.coprime_div_gcd_div_gcd hg
theorem tL {n:Int} {d:Nat} (h:0<d):0<(mkQ n d).den:=by
 obtain⟨g,hg,_,e,_⟩:=xx (n:=n) h
 rcases EG (mkQ n d).den with q | q
 ·rw [q,Nat.zero_mul] at e
  omega
 ·exact q
theorem Ie {a c:Int} {b d:Nat} (hb:0<b) (hd:0<d) (h1:Nat.gcd a.natAbs b=1) (h2:Nat.gcd c.natAbs d=1) (e:a*(d:Int)=c*(b:Int)):a=c∧b=d:=by
 have e1:a.natAbs*d=c.natAbs*b:=by
  have:=cA Int.natAbs e
  rwa [Int.natAbs_mul,Int.natAbs_mul,kr,kr] at this
 have d1:b∣d:=by
  have:b∣a.natAbs*d:=by rw [e1];exact Nat.dvd_mul_left b c.natAbs
  exact Nat.Coprime.dvd_of_dvd_mul_left (Nat.Coprime.symm h1) this
 have d2:d∣b:=by
  have:d∣c.natAbs*b:=by rw [←e1];exact Nat.dvd_mul_left d a.natAbs
  exact Nat.Coprime.dvd_of_dvd_mul_left (Nat.Coprime.symm h2) this
 have eb:b=d:=HK d1 d2
 subst eb
 exact⟨Int.eq_of_mul_eq_mul_right ⋯ e,rfl⟩
theorem Eg {a c:Int} {b d:Nat} (hb:0<b) (hd:0<d) (e:a*(d:Int)=c*(b:Int)):mkQ a b=mkQ c d:=by
 obtain⟨g,hg,ea,eb,l1⟩:=xx (n:=a) hb
 obtain⟨k,hk,ec,ed,l2⟩:=xx (n:=c) hd
 have hx:(mkQ a b).num*((mkQ c d).den:Int)=(mkQ c d).num*((mkQ a b).den:Int):=by
  have e2:((mkQ a b).num*(g:Int))*(((mkQ c d).den*k:Nat):Int)=((mkQ c d).num*(k:Int))*(((mkQ a b).den*g:Nat):Int):=by rw [←ea,←ed,←ec,←eb];exact e
  rw [b9,b9] at e2
  have e3:((mkQ a b).num*((mkQ c d).den:Int))*((g:Int)*(k:Int))=((mkQ c d).num*((mkQ a b).den:Int))*((g:Int)*(k:Int)):=by
   have l:(mkQ a b).num*(g:Int)*(((mkQ c d).den:Int)*(k:Int))=((mkQ a b).num*((mkQ c d).den:Int))*((g:Int)*(k:Int)):=by
    simp only [n6,pS,pR]
   have r:(mkQ c d).num*(k:Int)*(((mkQ a b).den:Int)*(g:Int))=((mkQ c d).num*((mkQ a b).den:Int))*((g:Int)*(k:Int)):=by
    simp only [n6,pS,pR]
   rw [←l,←r]
   exact e2
  refine Int.eq_of_mul_eq_mul_right ?_ e3
  have:=oG hg hk
  rw [←b9]
  omega
 obtain⟨e1,e2⟩:=Ie (tL hb) (tL hd) l1 l2 hx
 have ext:∀x y:Q,x.num=y.num→x.den=y.den→x=y:=fun x y h1 h2=>by cases x;cases y;simp only at h1 h2;subst h1;subst h2;rfl
 exact ext _ _ e1 e2
structure Is (q:Q) (n:Int) (d:Nat):Prop where
 dpos:0<d
 pos:0<q.den
 low:Nat.gcd q.num.natAbs q.den=1
 val:q.num*(d:Int)=n*(q.den:Int)
theorem Is.eq {q:Q} {n:Int} {d:Nat} (h:Is q n d):q=mkQ n d:=by
 have e:mkQ q.num q.den=q:=by
  have g1:Nat.gcd q.num.natAbs q.den=1:=h.low
  unfold Vbdeab.mkQ
  rw [g1,Nat.div_one]
  simp
 rw [←e]
 exact Eg h.pos h.dpos h.val
theorem Is.mk' {n:Int} {d:Nat} (h:0<d):Is (mkQ n d) n d:=by
 obtain⟨g,hg,e1,e2,l⟩:=xx (n:=n) h
 refine⟨h,tL h,l,?_⟩
 have:(mkQ n d).num*(((mkQ n d).den*g:Nat):Int)=((mkQ n d).num*(g:Int))*((mkQ n d).den:Int):=by
  rw [b9]
  simp only [n6,pS,pR]
 rw [←e1,←e2] at this
 exact this
theorem Is.conv {q:Q} {n m:Int} {d e:Nat} (h:Is q n d) (he:0<e) (x:n*(e:Int)=m*(d:Int)):Is q m e:=by
 rw [h.eq,Eg h.dpos he x]
 exact Is.mk' he
theorem Is.add {a b:Q} {n m:Int} {d e:Nat} (h:Is a n d) (k:Is b m e):Is (a.add b) (n*(e:Int)+m*(d:Int)) (d*e):=by
 refine(Is.mk' (oG h.pos k.pos)).conv (oG h.dpos k.dpos) ?_
 have h1:=h.val
 have k1:=k.val
 rw [b9,b9,Int.add_mul,Int.add_mul]
 have e1:a.num*(b.den:Int)*((d:Int)*(e:Int))=n*(e:Int)*((a.den:Int)*(b.den:Int)):=by
  have:a.num*(b.den:Int)*((d:Int)*(e:Int))=(a.num*(d:Int))*((b.den:Int)*(e:Int)):=by simp only [n6,pS,pR]
  rw [this,h1]
  simp only [n6,pS,pR]
 have e2:b.num*(a.den:Int)*((d:Int)*(e:Int))=m*(d:Int)*((a.den:Int)*(b.den:Int)):=by
  have:b.num*(a.den:Int)*((d:Int)*(e:Int))=(b.num*(e:Int))*((a.den:Int)*(d:Int)):=by simp only [n6,pS,pR]
  rw [this,k1]
  simp only [n6,pS,pR]
 rw [e1,e2]
theorem Is.mul {a b:Q} {n m:Int} {d e:Nat} (h:Is a n d) (k:Is b m e):Is (a.mul b) (n*m) (d*e):=by
 refine(Is.mk' (oG h.pos k.pos)).conv (oG h.dpos k.dpos) ?_
 have h1:=h.val
 have k1:=k.val
 rw [b9,b9]
 have:a.num*b.num*((d:Int)*(e:Int))=(a.num*(d:Int))*(b.num*(e:Int)):=by simp only [n6,pS,pR]
 rw [this,h1,k1]
 simp only [n6,pS,pR]
theorem Is.neg {a:Q} {n:Int} {d:Nat} (h:Is a n d):Is a.neg (-n) d:=
 ⟨h.dpos,h.pos,by show Nat.gcd (-a.num).natAbs a.den=1;rw [Int.natAbs_neg];exact h.low,by show -a.num*(d:Int)= -n*(a.den:Int);rw [Int.neg_mul,Int.neg_mul,h.val]⟩
theorem LW {a b c d x y:Int} (hx:0<x) (hy:0<y) (e:a*x=c*y) (f:b*x=d*y):a≤b↔c≤d:=by
 constructor
 ·intro h
  have:c*y≤d*y:=by rw [←e,←f];exact vT h (fH hx)
  exact HC this hy
 ·intro h
  have:a*x≤b*x:=by rw [e,f];exact vT h (fH hy)
  exact HC this hx
theorem Is.le_iff {a b:Q} {n m:Int} {d e:Nat} (h:Is a n d) (k:Is b m e):a.le b=true↔n*(e:Int)≤m*(d:Int):=by
 unfold Vbdeab.Q.le
 rw [fC]
 have h1:=h.val
 have k1:=k.val
 refine LW (x:=(d:Int)*(e:Int)) (y:=(a.den:Int)*(b.den:Int)) ?_ ?_ ?_ ?_
 ·have:=oG h.dpos k.dpos
  rw [←b9];omega
 ·have:=oG h.pos k.pos
  rw [←b9];omega
 ·have:a.num*(b.den:Int)*((d:Int)*(e:Int))=(a.num*(d:Int))*((b.den:Int)*(e:Int)):=by simp only [n6,pS,pR]
  rw [this,h1]
  simp only [n6,pS,pR]
 ·have:b.num*(a.den:Int)*((d:Int)*(e:Int))=(b.num*(e:Int))*((a.den:Int)*(d:Int)):=by simp only [n6,pS,pR]
  rw [this,k1]
  simp only [n6,pS,pR]
theorem Oa (a b:Q):a.lt b= !(b.le a):=by
 unfold Vbdeab.Q.lt Vbdeab.Q.le
 by_cases h:b.num*(a.den:Int)≤a.num*(b.den:Int)
 ·rw [aE h,br ⋯];rfl
 ·rw [br h,aE ⋯];rfl
theorem Is.lt_iff {a b:Q} {n m:Int} {d e:Nat} (h:Is a n d) (k:Is b m e):a.lt b=true↔n*(e:Int)<m*(d:Int):=by
 have z:=k.le_iff h
 rw [Oa]
 by_cases q:b.le a=true
 ·rw [q]
  have:=z.mp q
  simp only [Bool.not_true,Bool.false_eq_true,false_iff]
  omega
 ·have q':¬m*(d:Int)≤n*(e:Int):=fun y=>q (z.mpr y)
  simp only [q,Bool.not_eq_true',true_iff]
  simp only [Bool.not_eq_true] at q
  simp [q]
  omega
end Fr
namespace Hv
open Vbdeab (firstAt countGood)
structure DT (p:Nat→Bool) (lo hi r:Nat):Prop where
 ge:lo≤r
 le:r≤hi
 no:∀i,lo≤i→i<r→p i=false
 yes:∀i,r≤i→i<hi→p i=true
theorem DT.unique {p:Nat→Bool} {lo hi r s:Nat} (a:DT p lo hi r) (b:DT p lo hi s):r=s:=by
 rcases C0 r s with q | q | q
 ·have h1:=a.yes r (bq _) (gR q b.le)
  have h2:=b.no r a.ge q
  rw [h1] at h2;cases h2
 ·exact q
 ·have h1:=b.yes s (bq _) (gR q a.le)
  have h2:=a.no s b.ge q
  rw [h1] at h2;cases h2
theorem qf {p:Nat→Bool}:∀(f lo hi:Nat),lo≤hi→hi - lo<2 ^ f→(∀i j,lo≤i→i≤j→j<hi→p i=true→p j=true)→DT p lo hi (firstAt p f lo hi)
 | 0,lo,hi,h,hf,_=>by
  have:lo=hi:=by simp at hf;omega
  subst this
  exact⟨bq _,bq _,fun i h1 h2=>by unfold firstAt at h2;omega,fun i h1 h2=>by unfold firstAt at h1;omega⟩
 | f+1,lo,hi,h,hf,mono=>by
  rw [mV] at hf
  unfold firstAt
  by_cases q:lo<hi
  ·rw [if_pos q]
   by_cases pm:p ((lo+hi) /2)=true
   ·rw [if_pos pm]
    have ih:=qf f lo ((lo+hi) /2) ⋯ ⋯ fun i j a b c d=>mono i j a b ⋯ d
    refine⟨ih.ge,by have:=ih.le;omega,ih.no,fun i h1 h2=>?_⟩
    rcases sO i ((lo+hi) /2) with z | z
    ·exact ih.yes i h1 z
    ·exact mono _ i ⋯ z h2 pm
   ·rw [if_neg pm]
    have ih:=qf f ((lo+hi) /2+1) hi ⋯ ⋯ fun i j a b c d=>mono i j ⋯ b c d
    refine⟨by have:=ih.ge;omega,ih.le,fun i h1 h2=>?_,ih.yes⟩
    rcases sO ((lo+hi) /2) i with z | z
    ·exact ih.no i z h2
    ·cases e:p i with
     | false=>rfl
     | true=>exact absurd (mono i _ h1 z ⋯ e) pm
  ·rw [if_neg q]
   have:lo=hi:=by omega
   subst this
   exact⟨bq _,bq _,fun i h1 h2=>by omega,fun i h1 h2=>by omega⟩
end Hv
end
section
local macro_rules | `(tactic| omega)=>`(tactic| lia)
namespace Cb
open Vbdeab (ways choose addRows spread throws)
theorem yu:∀n,(ways n).length=n+1
 | 0=>rfl
 | n+1=>by
  unfold ways
  rw [List.length_zipWith,d8,bZ,yu n]
  simp
theorem choose_zero:∀n,choose n 0=1
 | 0=>rfl
 | n+1=>by
  have ih:=choose_zero n
  unfold choose at ih⊢
  unfold ways
  have hl:=yu n
  match e:ways n,hl with
  | a::r,_=>
   rw [e] at ih
   simp at ih⊢
   exact ih
theorem choose_succ (n i:Nat):choose (n+1) (i+1)=choose n i+choose n (i+1):=by
 unfold choose
 conv=>lhs;unfold ways
 simp only [e8,List.getElem?_zipWith,List.getElem?_cons_succ]
 have hl:=yu n
 rcases C0 (i+1) (n+1) with q | q | q
 ·rw [n8 ⋯,bH (show i<(ways n).length by omega),bH (show i+1<(ways n).length by omega)]
  rfl
 ·rw [n9 ⋯,bH (show i<(ways n).length by omega),uK (show(ways n).length≤i+1 by omega)]
  have:i+1 - (ways n).length=0:=by omega
  rw [this]
  rfl
 ·rw [uK (show(ways n).length≤i by omega),uK (show(ways n).length≤i+1 by omega)]
  rfl
theorem Ke:∀(n i:Nat),n<i→choose n i=0:=fun n i h=>by
 unfold choose
 rw [e8,uK (by rw [yu];omega)]
 rfl
theorem choose_zero_succ (i:Nat):choose 0 (i+1)=0:=Ke 0 (i+1) ⋯
theorem choose_step:∀(n i:Nat),(i+1)*choose n (i+1)+i*choose n i=n*choose n i
 | 0,i=>by
  rw [choose_zero_succ]
  cases i with
  | zero=>rfl
  | succ j=>rw [choose_zero_succ];simp
 | n+1,0=>by
  have ih:=choose_step n 0
  rw [choose_zero] at ih
  rw [choose_succ,choose_zero,choose_zero]
  omega
 | n+1,i+1=>by
  have h1:=choose_step n i
  have h2:=choose_step n (i+1)
  rw [choose_succ n (i+1),choose_succ n i]
  generalize choose n i=a at*
  generalize choose n (i+1)=b at*
  generalize choose n (i+1+1)=c at*
  have e1:(i+1+1)*(b+c)+(i+1)*(a+b)=((i+1+1)*c+(i+1)*b)+((i+1)*b+i*a)+(a+b):=by
   simp only [AD,wS,oH]
   omega
  rw [e1,h1,h2]
  simp only [AD,wS,oH]
  omega
theorem Ji:∀(l r:List Nat) (i:Nat),(addRows l r).getD i 0=l.getD i 0+r.getD i 0
 | [],r,i=>by
  unfold addRows
  simp
 | a::l,[],i=>by
  unfold addRows
  simp
 | a::l,b::r,0=>by
  unfold addRows
  simp
 | a::l,b::r,i+1=>by
  have ih:=Ji l r i
  unfold addRows
  simp only [e8,List.getElem?_cons_succ] at ih⊢
  exact ih
theorem EM:∀(l r:List Nat),(addRows l r).length=max l.length r.length
 | [],r=>by unfold addRows;simp
 | a::l,[]=>by unfold addRows;simp
 | a::l,b::r=>by
  unfold addRows
  rw [d8,EM l r,d8,d8]
  omega
theorem Au (l:List Nat):spread l 0= []:=by rw [spread]
theorem uA (l:List Nat) (s:Nat):spread l (s+1)=addRows l (0::spread l s):=by rw [spread]
theorem spread_len {l:List Nat} (hl:0<l.length):∀s,(spread l (s+1)).length=l.length+s
 | 0=>by
  rw [uA,Au,EM,List.length_singleton]
  omega
 | s+1=>by
  rw [uA,EM,d8,spread_len hl s]
  omega
theorem spread_get (l:List Nat):∀(s i:Nat),(spread l s).getD i 0=((List.range s).map fun j=>if j≤i then l.getD (i - j) 0 else 0).sum
 | 0,i=>by rw [Au];rfl
 | s+1,i=>by
  rw [uA,Ji,J3,e9,AC]
  rw [if_pos (bo i),Nat.sub_zero]
  congr 1
  cases i with
  | zero=>
   rw [fu]
   show(0:Nat)=_
   have:∀k:List Nat,(k.map ((fun j=>if j≤0 then l.getD (0 - j) 0 else 0)∘Nat.succ)).sum=0:=fun k=>by
    induction k with
    | nil=>rfl
    | cons a r ih=>rw [e9,AC,ih];simp
   exact(this _).symm
  | succ i=>
   have ih:=spread_get l s i
   show(spread l s).getD i 0=_
   rw [ih,fu]
   congr 1
   refine oa fun j _=>?_
   show(if j≤i then _ else _)=if j+1≤i+1 then _ else _
   by_cases q:j≤i
   ·rw [if_pos q,if_pos ⋯]
    congr 1
    omega
   ·rw [if_neg q,if_neg ⋯]
theorem throws_zero (s:Nat):throws s 0= [1]:=by rw [throws]
theorem throws_succ (s n:Nat):throws s (n+1)=spread (throws s n) s:=by rw [throws]
theorem throws_len (s:Nat):∀n,(throws (s+1) n).length=n*s+1
 | 0=>by rw [throws_zero];simp
 | n+1=>by
  rw [throws_succ,spread_len (by rw [throws_len s n];omega),throws_len s n,AD]
  omega
end Cb
end
section
namespace Fr
open Vbdeab (Q mkQ)
structure Iz (q:Q) (n d:Int):Prop where
 dpos:0<d
 pos:0<q.den
 low:Nat.gcd q.num.natAbs q.den=1
 val:q.num*d=n*(q.den:Int)
theorem Iz.is {q:Q} {n d:Int} (h:Iz q n d):Is q n d.toNat:=
 ⟨by have:=h.dpos;omega,h.pos,h.low,by rw [cE (fH h.dpos)];exact h.val⟩
theorem Is.iz {q:Q} {n:Int} {d:Nat} (h:Is q n d):Iz q n (d:Int):=⟨by have:=h.dpos;omega,h.pos,h.low,h.val⟩
theorem Is.iz' {q:Q} {n d:Int} {e:Nat} (h:Is q n e) (x:(e:Int)=d):Iz q n d:=by
 subst x
 exact h.iz
theorem Iz.eq {q:Q} {n d:Int} (h:Iz q n d):q=mkQ n d.toNat:=h.is.eq
theorem Iz.mk' {n d:Int} (h:0<d):Iz (mkQ n d.toNat) n d:=(Is.mk' (n:=n) (d:=d.toNat) ⋯).iz' (cE (fH h))
theorem Iz.conv {q:Q} {n m d e:Int} (h:Iz q n d) (he:0<e) (x:n*e=m*d):Iz q m e:=by
 refine(h.is.conv (e:=e.toNat) (m:=m) ⋯ ?_).iz' (cE (fH he))
 rw [cE (fH he),cE (fH h.dpos)]
 exact x
theorem Iz.unique {a b:Q} {n m d e:Int} (h:Iz a n d) (k:Iz b m e) (x:n*e=m*d):a=b:=by
 rw [(h.conv k.dpos x).eq,k.eq]
theorem Iz.self {q:Q} (p:0<q.den) (l:Nat.gcd q.num.natAbs q.den=1):Iz q q.num (q.den:Int):=⟨⋯,p,l,rfl⟩
theorem Iz.add {a b:Q} {n m d e:Int} (h:Iz a n d) (k:Iz b m e):Iz (a.add b) (n*e+m*d) (d*e):=by
 have z:=h.is.add k.is
 rw [cE (fH h.dpos),cE (fH k.dpos)] at z
 exact z.iz' (by rw [b9,cE (fH h.dpos),cE (fH k.dpos)])
theorem Iz.mul {a b:Q} {n m d e:Int} (h:Iz a n d) (k:Iz b m e):Iz (a.mul b) (n*m) (d*e):=by
 have z:=h.is.mul k.is
 exact z.iz' (by rw [b9,cE (fH h.dpos),cE (fH k.dpos)])
theorem Iz.neg {a:Q} {n d:Int} (h:Iz a n d):Iz a.neg (-n) d:=by
 have z:=h.is.neg
 exact z.iz' (cE (fH h.dpos))
theorem Iz.sub {a b:Q} {n m d e:Int} (h:Iz a n d) (k:Iz b m e):Iz (a.sub b) (n*e - m*d) (d*e):=by
 have z:=h.add k.neg
 rw [Int.neg_mul,←Int.sub_eq_add_neg] at z
 exact z
theorem Iz.le_iff {a b:Q} {n m d e:Int} (h:Iz a n d) (k:Iz b m e):a.le b=true↔n*e≤m*d:=by
 have z:=h.is.le_iff k.is
 rw [cE (fH h.dpos),cE (fH k.dpos)] at z
 exact z
theorem Iz.lt_iff {a b:Q} {n m d e:Int} (h:Iz a n d) (k:Iz b m e):a.lt b=true↔n*e<m*d:=by
 have z:=h.is.lt_iff k.is
 rw [cE (fH h.dpos),cE (fH k.dpos)] at z
 exact z
theorem Iz.ofInt (z:Int):Iz (Vbdeab.ofInt z) z 1:=⟨(),by show 0<1;decide,by show Nat.gcd _ 1=1;exact Nat.gcd_one_right _,rfl⟩
theorem Iz.ofNat (n:Nat):Iz (Vbdeab.ofNat n) (n:Int) 1:=Iz.ofInt (n:Int)
theorem Iz.half:Iz ⟨1,2⟩ 1 2:=⟨(),(),(),()⟩
theorem Iz.third:Iz ⟨1,3⟩ 1 3:=⟨(),(),(),()⟩
theorem Iz.zero {d:Int} (h:0<d):Iz (Vbdeab.ofNat 0) 0 d:=(Iz.ofNat 0).conv h (by simp)
theorem Iz.divNat {a:Q} {n d:Int} (h:Iz a n d) {w:Nat} (hw:0<w):Iz (a.div (Vbdeab.ofNat w)) n (d*w):=by
 have e:a.div (Vbdeab.ofNat w)=mkQ a.num (a.den*w):=by
  unfold Vbdeab.Q.div
  have e1:(Vbdeab.ofNat w).num=(w:Int):=rfl
  have e2:(Vbdeab.ofNat w).den=1:=rfl
  rw [e1,e2,if_neg ⋯]
  simp
 rw [e]
 have z:=(Is.mk' (n:=a.num) (d:=a.den*w) (oG h.pos hw)).iz
 refine z.conv (eZ h.dpos ⋯) ?_
 have v:=h.val
 rw [b9]
 grind
theorem Iz.divPos {a b:Q} {n m d e:Int} (h:Iz a n d) (k:Iz b m e) (hm:0<m):Iz (a.div b) (n*e) (d*m):=by
 have hb:0<b.num:=by
  have v:=k.val
  have p1:0<m*(b.den:Int):=eZ hm (by have:=k.pos;omega)
  rw [←v] at p1
  exact Int.pos_of_mul_pos_left p1 k.dpos |>fun z=>z
 have e0:a.div b=mkQ (a.num*(b.den:Int)) (a.den*b.num.natAbs):=by
  unfold Vbdeab.Q.div
  rw [if_neg ⋯,Int.mul_one]
 rw [e0]
 have z:=(Is.mk' (n:=a.num*(b.den:Int)) (d:=a.den*b.num.natAbs) (oG h.pos ⋯)).iz
 refine z.conv (eZ h.dpos hm) ?_
 have v1:=h.val
 have v2:=k.val
 have e3:((b.num.natAbs:Nat):Int)=b.num:=by omega
 rw [b9,e3]
 grind
open Vbdeab (Class)
def lowQ (q:Q):Prop:=0<q.den∧Nat.gcd q.num.natAbs q.den=1
theorem Iz.lowQ {q:Q} {n d:Int} (h:Iz q n d):lowQ q:=⟨h.pos,h.low⟩
theorem lowQ.iz {q:Q} (h:Fr.lowQ q):Iz q q.num (q.den:Int):= .self h.1 h.2
def sQ (x y:Q):Int:=(x.den:Int)*((y.den /Nat.gcd x.den y.den:Nat):Int)
def Dy (x:Q) (b:Int):Int:=x.num*(b /(x.den:Int))
theorem oP {x y:Q} (hx:lowQ x) (hy:lowQ y):0<sQ x y:=by
 have h1:=hx.1
 have h2:0<y.den /Nat.gcd x.den y.den:=Nat.div_pos (Nat.le_of_dvd hy.1 (jk _ _)) (Nat.gcd_pos_of_pos_left _ hx.1)
 unfold sQ
 exact eZ ⋯ ⋯
theorem D6 (x y:Q):(x.den:Int)∣sQ x y:=⟨_,rfl⟩
theorem BD (x y:Q):(y.den:Int)∣sQ x y:=by
 unfold sQ
 obtain⟨k,hk⟩:=vV x.den y.den
 obtain⟨j,hj⟩:=jk x.den y.den
 rcases EG (Nat.gcd x.den y.den) with q | q
 ·rw [q] at hk hj
  simp at hk hj
  rw [hk,hj]
  exact⟨0,rfl⟩
 ·refine⟨(k:Int),?_⟩
  have e:y.den /Nat.gcd x.den y.den=j:=Nat.div_eq_of_eq_mul_right q hj
  rw [e]
  generalize Nat.gcd x.den y.den=g at*
  rw [hk,hj,b9,b9]
  grind
theorem Bp {x:Q} {b:Int} (hx:lowQ x) (hb:0<b) (hd:(x.den:Int)∣b):Iz x (Dy x b) b:=by
 obtain⟨k,rfl⟩:=hd
 have hp:(0:Int)<x.den:=by have:=hx.1;omega
 refine hx.iz.conv hb ?_
 unfold Dy
 rw [C3 _ ⋯]
 grind
def cB:Class→Int
 | .line x y=>sQ x y
 | .comb x s _=>sQ x s
def cO:Class→Int
 | .line x y=>Dy x (sQ x y)
 | .comb x s _=>Dy x (sQ x s)
def cR:Class→Int
 | .line x y=>Dy y (sQ x y) - Dy x (sQ x y)
 | .comb x s _=>Dy s (sQ x s)
def j3:Class→Prop
 | .line x y=>lowQ x∧lowQ y
 | .comb x s n=>lowQ x∧lowQ s∧1≤n
theorem mt {c:Class} (h:j3 c):0<cB c:=by
 cases c with
 | line x y=>exact oP h.1 h.2
 | comb x s n=>exact oP h.1 h.2.1
theorem qp {x y:Q} (h:j3 (.line x y)):Iz x (cO (.line x y)) (cB (.line x y)):=Bp h.1 (oP h.1 h.2) (D6 _ _)
theorem tJ {x y:Q} (h:j3 (.line x y)):Iz y (cO (.line x y)+cR (.line x y)) (cB (.line x y)):=by
 have z:=Bp h.2 (oP h.1 h.2) (BD x y)
 have e:Dy y (sQ x y)=cO (.line x y)+cR (.line x y):=by unfold cO cR;simp only;omega
 rw [e] at z
 exact z
theorem BF {x s:Q} {n:Nat} (h:j3 (.comb x s n)):Iz x (cO (.comb x s n)) (cB (.comb x s n)):=Bp h.1 (oP h.1 h.2.1) (D6 _ _)
theorem vZ {x s:Q} {n:Nat} (h:j3 (.comb x s n)):Iz s (cR (.comb x s n)) (cB (.comb x s n)):=Bp h.2.1 (oP h.1 h.2.1) (BD _ _)
theorem yr {x s:Q} {n:Nat} (h:j3 (.comb x s n)) (i:Nat):Iz (tooth x s i) (cO (.comb x s n)+cR (.comb x s n)*(i:Int)) (cB (.comb x s n)):=by
 have z:=(BF h).add ((vZ h).mul (Iz.ofNat i))
 refine z.conv (mt h) ?_
 grind
theorem N3:(0:Int)<(Vbdeab.M:Int):=by decide
def Lj (c:Class) (t span:Int):Int:=match c with
 | .line x y=>cO (.line x y)*span+cR (.line x y)*t
 | .comb x s n=>cO (.comb x s n)+cR (.comb x s n)*(t*n /span)
def Os (c:Class) (span:Int):Int:=match c with
 | .line x y=>cB (.line x y)*span
 | .comb x s n=>cB (.comb x s n)
theorem tE {c:Class} (h:j3 c) {w:Nat} (hw:0<w) (t:Nat):Iz (along w c t) (Lj c t ((Vbdeab.M:Int)*w)) (Os c ((Vbdeab.M:Int)*w)):=by
 have hs:(0:Int)<(Vbdeab.M:Int)*w:=eZ N3 ⋯
 cases c with
 | line x y=>
  have z:=(qp h).add (((tJ h).sub (qp h)).mul ((Is.mk' (n:=(t:Int)) (d:=Vbdeab.M*w) (oG () hw)).iz))
  refine z.conv (eZ (mt h) hs) ?_
  rw [b9]
  unfold Lj Os
  simp only
  generalize (Vbdeab.M:Int)*(w:Int)=sp
  generalize cO (.line x y)=o
  generalize cR (.line x y)=r
  generalize cB (.line x y)=b
  grind
 | comb x s n=>
  have z:=yr h (t*n /(Vbdeab.M*w))
  rw [C5,b9,b9] at z
  exact z
def FR:Class→Int
 | .line x y=>2*cO (.line x y)+cR (.line x y)
 | .comb x s n=>2*cO (.comb x s n)+cR (.comb x s n)*((n:Int) - 1)
def uk:Class→Int
 | .line x y=>6*cO (.line x y)*(cO (.line x y)+cR (.line x y))+2*cR (.line x y)*cR (.line x y)
 | .comb x s n=>6*cO (.comb x s n)*(cO (.comb x s n)+cR (.comb x s n)*((n:Int) - 1))+cR (.comb x s n)*(cR (.comb x s n)*((n:Int) - 1))*(2*(n:Int) - 1)
theorem Nq {c:Class} (h:j3 c):Iz c.mean (FR c) (2*cB c):=by
 have hb:=mt h
 cases c with
 | line x y=>
  have z:=((qp h).add (tJ h)).mul Iz.half
  refine z.conv ⋯ ?_
  unfold FR
  simp only
  generalize cO (.line x y)=o
  generalize cR (.line x y)=r
  generalize cB (.line x y)=b
  grind
 | comb x s n=>
  have z:=(BF h).add ((vZ h).mul ((Is.mk' (n:=(n:Int) - 1) (d:=2) ()).iz))
  refine z.conv ⋯ ?_
  unfold FR
  simp only
  generalize cO (.comb x s n)=o
  generalize cR (.comb x s n)=r
  generalize cB (.comb x s n)=b
  grind
theorem K2 {c:Class} (h:j3 c):Iz c.square (uk c) (6*(cB c*cB c)):=by
 have hb:=mt h
 have hb2:=eZ hb hb
 cases c with
 | line x y=>
  have z:=(((qp h).mul (qp h)).add (((qp h).mul (tJ h)).add ((tJ h).mul (tJ h)))).mul Iz.third
  refine z.conv ⋯ ?_
  unfold uk
  simp only
  generalize cO (.line x y)=o
  generalize cR (.line x y)=r
  generalize cB (.line x y)=b
  grind
 | comb x s n=>
  have z:=((BF h).mul (BF h)).add ((((BF h).mul (vZ h)).mul (Iz.ofInt ((n:Int) - 1))).add (((vZ h).mul (vZ h)).mul ((Is.mk' (n:=((n:Int) - 1)*(2*(n:Int) - 1)) (d:=6) ()).iz)))
  refine z.conv ⋯ ?_
  unfold uk
  simp only
  generalize cO (.comb x s n)=o
  generalize cR (.comb x s n)=r
  generalize cB (.comb x s n)=b
  grind
end Fr
end
section
namespace Fr
open Vbdeab (Q mkQ Class Dist)
def Qk (f:Class→Q) (d:Dist):Q:=d.foldr (fun c a=>((Vbdeab.ofNat c.1).mul (f c.2)).add a) (Vbdeab.ofNat 0)
theorem HA (f:Class→Q) (d:Dist):weighted f d=(Qk f d).div (Vbdeab.ofNat (total d)):=rfl
def ij (num den:Class→Int) (b:Int):Dist→Int
 | []=>0
 | c::r=>(if 0<c.1 then(c.1:Int)*num c.2*(b /den c.2) else 0)+ij num den b r
theorem l8 (num den:Class→Int) (b:Int) (c:Nat×Class) (r:Dist):ij num den b (c::r)=(if 0<c.1 then(c.1:Int)*num c.2*(b /den c.2) else 0)+ij num den b r:=rfl
theorem JX {f:Class→Q} {num den:Class→Int} {k b:Int} (hk:0<k) (hb:0<b):∀{d:Dist},(∀c∈d,j3 c.2)→(∀c∈d,Iz (f c.2) (num c.2) (k*den c.2)∧0<den c.2)→(∀c∈d,0<c.1→den c.2∣b)→Iz (Qk f d) (ij num den b d) (k*b)
 | [],_,_,_=>Iz.zero (eZ hk hb)
 | c::r,hl,hf,hd=>by
  have ih:=JX (f:=f) (num:=num) (den:=den) hk hb (d:=r) (fun c hc=>hl c (dX _ hc)) (fun c hc=>hf c (dX _ hc)) (fun c hc=>hd c (dX _ hc))
  obtain⟨h1,h2⟩:=hf c fD
  have z:=((Iz.ofNat c.1).mul h1).add ih
  refine z.conv (eZ hk hb) ?_
  rw [l8]
  by_cases q:0<c.1
  ·obtain⟨j,hj⟩:=hd c fD q
   rw [if_pos q]
   have e:b /den c.2=j:=by rw [hj];exact C3 _ ⋯
   rw [e]
   clear z ih hl hf hd h1
   generalize ij num den b r=s
   generalize num c.2=nn
   generalize den c.2=dd at*
   clear e
   subst hj
   grind
  ·have q0:(c.1:Int)=0:=by omega
   rw [if_neg q,q0]
   grind
theorem uC {f:Class→Q} {num den:Class→Int} {k b:Int} (hk:0<k) (hb:0<b) {d:Dist} (hl:∀c∈d,j3 c.2) (hf:∀c∈d,Iz (f c.2) (num c.2) (k*den c.2)∧0<den c.2) (hd:∀c∈d,0<c.1→den c.2∣b) (hw:0<total d):
  Iz (weighted f d) (ij num den b d) (k*b*(total d:Nat)):=by
 rw [HA]
 exact(JX hk hb hl hf hd).divNat hw
theorem JC {b:Int} (hb:0<b) {d:Dist} (hl:∀c∈d,j3 c.2) (hd:∀c∈d,0<c.1→cB c.2∣b) (hw:0<total d):Iz (Vbdeab.mean d) (ij FR cB b d) (2*b*(total d:Nat)):=
 uC () hb hl (fun c hc=>⟨Nq (hl c hc),mt (hl c hc)⟩) hd hw
def LA (c:Class):Int:=cB c*cB c
theorem P5 {b:Int} (hb:0<b) {d:Dist} (hl:∀c∈d,j3 c.2) (hd:∀c∈d,0<c.1→cB c.2∣b) (hw:0<total d):Iz (weighted Class.square d) (ij uk LA (b*b) d) (6*(b*b)*(total d:Nat)):=
 uC () (eZ hb hb) hl (fun c hc=>⟨K2 (hl c hc),eZ (mt (hl c hc)) (mt (hl c hc))⟩) (fun c hc q=>by
  obtain⟨j,e⟩:=hd c hc q
  exact⟨j*j,by rw [e];unfold LA;grind⟩) hw
theorem Pc {b:Int} (hb:0<b) {d:Dist} (hl:∀c∈d,j3 c.2) (hd:∀c∈d,0<c.1→cB c.2∣b) (hw:0<total d):
  Iz (variance d) (2*(total d:Nat)*ij uk LA (b*b) d - 3*ij FR cB b d*ij FR cB b d) (12*(total d:Nat)*(total d:Nat)*b*b):=by
 have m:=JC hb hl hd hw
 have s:=P5 hb hl hd hw
 have z:=s.sub (m.mul m)
 have hW:(0:Int)<(total d:Nat):=by omega
 refine z.conv (eZ (eZ (eZ (eZ () hW) hW) hb) hb) ?_
 generalize ij uk LA (b*b) d=x
 generalize ij FR cB b d=y
 generalize ((total d:Nat):Int)=W at*
 grind
structure M7 (bP:Int) (fs:Int) (left bottom:Int):Prop where
 bpos:0<bottom
 fpos:0<fs
 eq:bP*bottom=left*fs
 low:Nat.gcd left.natAbs bottom.natAbs=1
theorem M7.start (bP:Int):M7 bP 1 bP 1:=⟨(),(),rfl,by simp⟩
theorem Gd {a b:Nat} (h:0<b):Nat.gcd (a /Nat.gcd a b) (b /Nat.gcd a b)=1:=by
 have hg:0<Nat.gcd a b:=HL _ h
 rw [Nat.gcd_div (vV _ _) (jk _ _),Nat.div_self hg]
theorem BQ {a:Int} {g:Nat} (h:(g:Int)∣a) (hg:0<g):(a /(g:Int)).natAbs=a.natAbs /g:=by
 obtain⟨k,rfl⟩:=h
 rw [C3 _ ⋯,Int.natAbs_mul,kr,Nat.mul_div_cancel_left _ hg]
theorem eB (a:Int) (b:Nat):((Nat.gcd a.natAbs b:Nat):Int)∣a:=Ay.mp (by rw [kr];exact vV _ _)
theorem M7.step {bP fs left bottom f:Int} (h:M7 bP fs left bottom) (hf:0<f):M7 bP (fs*f) (left /((Nat.gcd left.natAbs f.toNat:Nat):Int)) (bottom*(f /((Nat.gcd left.natAbs f.toNat:Nat):Int))):=by
 obtain⟨F,rfl⟩:∃F:Nat,f=(F:Int):=⟨f.toNat,⋯⟩
 have hF:0<F:=by omega
 rw [cV]
 have hg:0<Nat.gcd left.natAbs F:=HL _ hF
 have d1:=eB left F
 have d2:((Nat.gcd left.natAbs F:Nat):Int)∣(F:Int):=C6.mpr (jk _ _)
 have hq:0<F /Nat.gcd left.natAbs F:=Nat.div_pos (Nat.le_of_dvd hF (jk _ _)) hg
 have e2:(F:Int) /((Nat.gcd left.natAbs F:Nat):Int)=((F /Nat.gcd left.natAbs F:Nat):Int):=(C5 _ _).symm
 refine⟨eZ h.bpos (by rw [e2];omega),eZ h.fpos hf,?_,?_⟩
 ·obtain⟨a,ha⟩:=d1
  obtain⟨b,hb⟩:=d2
  have h1:left /((Nat.gcd left.natAbs F:Nat):Int)=a:=by
   conv=>lhs;lhs;rw [ha]
   exact C3 _ ⋯
  have h2:(F:Int) /((Nat.gcd left.natAbs F:Nat):Int)=b:=by
   conv=>lhs;lhs;rw [hb]
   exact C3 _ ⋯
  rw [h1,h2]
  have e:=h.eq
  generalize ((Nat.gcd left.natAbs F:Nat):Int)=g at*
  grind
 ·have c1:Nat.gcd (left /((Nat.gcd left.natAbs F:Nat):Int)).natAbs (F /Nat.gcd left.natAbs F)=1:=by
   rw [BQ d1 hg]
   exact Gd hF
  have c2:Nat.gcd (left /((Nat.gcd left.natAbs F:Nat):Int)).natAbs bottom.natAbs=1:=by
   rw [BQ d1 hg]
   have:left.natAbs /Nat.gcd left.natAbs F∣left.natAbs:=Nat.div_dvd_of_dvd (vV _ _)
   exact Nat.Coprime.coprime_dvd_left this h.low
  rw [e2,Int.natAbs_mul,kr]
  exact Nat.Coprime.mul_right c2 c1
theorem M7.iz {bP fs left bottom:Int} (h:M7 bP fs left bottom):Iz ⟨left,bottom.toNat⟩ bP fs:=by
 have hb:=h.bpos
 refine⟨h.fpos,by show 0<bottom.toNat;omega,?_,?_⟩
 ·show Nat.gcd left.natAbs bottom.toNat=1
  have e:bottom.toNat=bottom.natAbs:=by omega
  rw [e]
  exact h.low
 ·show left*fs=bP*((bottom.toNat:Nat):Int)
  rw [cE (fH hb)]
  exact h.eq.symm
theorem le_antisymm {a b:Q} (ha:lowQ a) (hb:lowQ b) (h1:a.le b=true) (h2:b.le a=true):a=b:=by
 have z1:=(ha.iz.le_iff hb.iz).mp h1
 have z2:=(hb.iz.le_iff ha.iz).mp h2
 exact ha.iz.unique hb.iz (Int.le_antisymm z1 z2)
theorem le_refl (a:Q):a.le a=true:=by unfold Vbdeab.Q.le;simp
theorem Gm (a b:Q):a.le b=true∨b.le a=true:=by
 unfold Vbdeab.Q.le
 simp only [fC]
 omega
theorem le_trans {a b c:Q} (ha:lowQ a) (hb:lowQ b) (hc:lowQ c) (h1:a.le b=true) (h2:b.le c=true):a.le c=true:=by
 have z1:=(ha.iz.le_iff hb.iz).mp h1
 have z2:=(hb.iz.le_iff hc.iz).mp h2
 refine(ha.iz.le_iff hc.iz).mpr ?_
 have p1:(0:Int)<a.den:=by have:=ha.1;omega
 have p2:(0:Int)<b.den:=by have:=hb.1;omega
 have p3:(0:Int)<c.den:=by have:=hc.1;omega
 have y1:a.num*(b.den:Int)*(c.den:Int)≤b.num*(a.den:Int)*(c.den:Int):=vT z1 (fH p3)
 have y2:b.num*(c.den:Int)*(a.den:Int)≤c.num*(b.den:Int)*(a.den:Int):=vT z2 (fH p1)
 refine HC (a:=(b.den:Int)) ?_ p2
 have e1:a.num*(c.den:Int)*(b.den:Int)=a.num*(b.den:Int)*(c.den:Int):=by grind
 have e2:c.num*(a.den:Int)*(b.den:Int)=c.num*(b.den:Int)*(a.den:Int):=by grind
 have e3:b.num*(a.den:Int)*(c.den:Int)=b.num*(c.den:Int)*(a.den:Int):=by grind
 omega
structure jy (l:List Q) (q:Q):Prop where
 mem:q∈l
 le:∀z∈l,q.le z=true
structure mn (l:List Q) (q:Q):Prop where
 mem:q∈l
 le:∀z∈l,z.le q=true
theorem jy.unique {l:List Q} {a b:Q} (hl:∀z∈l,lowQ z) (h:jy l a) (k:jy l b):a=b:=le_antisymm (hl _ h.mem) (hl _ k.mem) (h.le _ k.mem) (k.le _ h.mem)
theorem mn.unique {l:List Q} {a b:Q} (hl:∀z∈l,lowQ z) (h:mn l a) (k:mn l b):a=b:=le_antisymm (hl _ h.mem) (hl _ k.mem) (k.le _ h.mem) (h.le _ k.mem)
theorem Id (a b:Q):jy [a,b] (a.least b):=by
 unfold Vbdeab.Q.least
 by_cases h:a.le b=true
 ·rw [if_pos h]
  exact⟨by simp,fun z hz=>by rcases cH.mp hz with rfl | hz;exact le_refl _;rw [gQ] at hz;rw [hz];exact h⟩
 ·rw [if_neg h]
  have h':b.le a=true:=(Gm a b).resolve_left h
  exact⟨by simp,fun z hz=>by rcases cH.mp hz with rfl | hz;exact h';rw [gQ] at hz;rw [hz];exact le_refl _⟩
theorem L6 (a b:Q):mn [a,b] (a.most b):=by
 unfold Vbdeab.Q.most
 by_cases h:a.le b=true
 ·rw [if_pos h]
  exact⟨by simp,fun z hz=>by rcases cH.mp hz with rfl | hz;exact h;rw [gQ] at hz;rw [hz];exact le_refl _⟩
 ·rw [if_neg h]
  have h':b.le a=true:=(Gm a b).resolve_left h
  exact⟨by simp,fun z hz=>by rcases cH.mp hz with rfl | hz;exact le_refl _;rw [gQ] at hz;rw [hz];exact h'⟩
theorem E1 {l r:List Q} {a b:Q} (hl:∀z∈l++r,lowQ z) (h:jy l a) (k:jy r b):jy (l++r) (a.least b):=by
 have la:=hl a (Db _ h.mem)
 have lb:=hl b (sK _ k.mem)
 have z:=Id a b
 have lm:lowQ (a.least b):=by
  rcases cH.mp z.mem with e | e
  ·rw [e];exact la
  ·rw [gQ] at e;rw [e];exact lb
 refine⟨?_,fun y hy=>?_⟩
 ·rcases cH.mp z.mem with e | e
  ·rw [e];exact Db _ h.mem
  ·rw [gQ] at e;rw [e];exact sK _ k.mem
 ·rcases jT.mp hy with q | q
  ·exact le_trans lm la (hl y hy) (z.le a (by simp)) (h.le y q)
  ·exact le_trans lm lb (hl y hy) (z.le b (by simp)) (k.le y q)
theorem Gr {l r:List Q} {a b:Q} (hl:∀z∈l++r,lowQ z) (h:mn l a) (k:mn r b):mn (l++r) (a.most b):=by
 have la:=hl a (Db _ h.mem)
 have lb:=hl b (sK _ k.mem)
 have z:=L6 a b
 have lm:lowQ (a.most b):=by
  rcases cH.mp z.mem with e | e
  ·rw [e];exact la
  ·rw [gQ] at e;rw [e];exact lb
 refine⟨?_,fun y hy=>?_⟩
 ·rcases cH.mp z.mem with e | e
  ·rw [e];exact Db _ h.mem
  ·rw [gQ] at e;rw [e];exact sK _ k.mem
 ·rcases jT.mp hy with q | q
  ·exact le_trans (hl y hy) la lm (h.le y q) (z.le a (by simp))
  ·exact le_trans (hl y hy) lb lm (k.le y q) (z.le b (by simp))
def AF:Class→Q
 | .line _ y=>y
 | .comb x s n=>tooth x s (n - 1)
def rW:Class→Q
 | .line x _=>x
 | .comb x _ _=>x
def iR (d:Dist):List Q:=d.flatMap fun c=> [rW c.2,AF c.2]
theorem z6 (c:Class):c.least=(rW c).least (AF c):=by cases c<;>rfl
theorem BB (c:Class):c.most=(rW c).most (AF c):=by cases c<;>rfl
theorem Nh {c:Class} (h:j3 c):lowQ (AF c):=by
 cases c with
 | line x y=>exact h.2
 | comb x s n=>exact(yr h (n - 1)).lowQ
theorem L9 {c:Class} (h:j3 c):lowQ (rW c):=by
 cases c with
 | line x y=>exact h.1
 | comb x s n=>exact h.1
theorem BH {d:Dist} (h:∀c∈d,j3 c.2):∀z∈iR d,lowQ z:=fun z hz=>by
 obtain⟨c,hc,e⟩:=List.mem_flatMap.mp hz
 rcases cH.mp e with e | e
 ·rw [e];exact L9 (h c hc)
 ·rw [gQ] at e
  rw [e];exact Nh (h c hc)
theorem BA:∀{d:Dist},d≠ []→(∀c∈d,j3 c.2)→jy (iR d) (bestOf Q.least (d.map fun c=>c.2.least))
 | [],h,_=>absurd rfl h
 | [c],_,h=>by
  show jy ([rW c.2,AF c.2]++ []) c.2.least
  rw [vU,z6]
  exact Id _ _
 | c::e::r,_,h=>by
  have ih:=BA (d:=e::r) (by simp) fun c hc=>h c (dX _ hc)
  show jy ([rW c.2,AF c.2]++iR (e::r)) (c.2.least.least _)
  refine E1 (BH (d:=c::e::r) h) ?_ ih
  rw [z6]
  exact Id _ _
theorem DY:∀{d:Dist},d≠ []→(∀c∈d,j3 c.2)→mn (iR d) (bestOf Q.most (d.map fun c=>c.2.most))
 | [],h,_=>absurd rfl h
 | [c],_,h=>by
  show mn ([rW c.2,AF c.2]++ []) c.2.most
  rw [vU,BB]
  exact L6 _ _
 | c::e::r,_,h=>by
  have ih:=DY (d:=e::r) (by simp) fun c hc=>h c (dX _ hc)
  show mn ([rW c.2,AF c.2]++iR (e::r)) (c.2.most.most _)
  refine Gr (BH (d:=c::e::r) h) ?_ ih
  rw [BB]
  exact L6 _ _
end Fr
end
section
local macro_rules | `(tactic| omega)=>`(tactic| lia)
namespace Hv
open Vbdeab (firstAt countGood)
theorem fw {good:Nat→Bool} {lo hi r:Nat} (hf:hi - lo<2 ^ 64) (F:DT (fun i=> !good i) lo hi r):countGood good true lo hi=r - lo:=by
 unfold countGood
 rw [if_pos rfl]
 have z:=qf (p:=fun i=> !good i) 64 lo hi (fS F.ge F.le) hf fun i j h1 h2 h3 h4=>by
  rcases sO i r with q | q
  ·have:=F.no i h1 q
   rw [this] at h4;cases h4
  ·exact F.yes j ⋯ h3
 rw [z.unique F]
theorem jA {good:Nat→Bool} {lo hi r:Nat} (hf:hi - lo<2 ^ 64) (F:DT good lo hi r):countGood good false lo hi=hi - r:=by
 unfold countGood
 rw [if_neg ()]
 have z:=qf (p:=good) 64 lo hi (fS F.ge F.le) hf fun i j h1 h2 h3 h4=>by
  rcases sO i r with q | q
  ·have:=F.no i h1 q
   rw [this] at h4;cases h4
  ·exact F.yes j ⋯ h3
 rw [z.unique F]
def Oo (g:Nat→Bool) (rising:Bool) (lo hi:Nat):Prop:=∀i j,lo≤i→i≤j→j<hi→if rising=true then(g j=true→g i=true) else(g i=true→g j=true)
theorem count_same {g:Nat→Bool} {rising:Bool} {lo hi:Nat} (hm:Oo g rising lo hi) (hlt:lo<hi) (hf:hi - lo<2 ^ 64) (e:g lo=g (hi - 1)):countGood g rising lo hi=if g lo=true then hi - lo else 0:=by
 cases rising with
 | true=>
  cases h:g lo with
  | true=>
   rw [if_pos rfl,fw hf (r:=hi) ⟨⋯,bq _,fun i h1 h2=>?_,fun i h1 h2=>by omega⟩]
   have z:=hm i (hi - 1) h1 ⋯ ⋯
   rw [if_pos rfl] at z
   show(!g i)=false
   rw [z (by rw [←e];exact h)]
   rfl
  | false=>
   rw [if_neg (),fw hf (r:=lo) ⟨⋯,⋯,fun i h1 h2=>by omega,fun i h1 h2=>?_⟩,uF]
   have z:=hm lo i ⋯ h1 h2
   rw [if_pos rfl] at z
   show(!g i)=true
   cases q:g i with
   | true=>rw [z q] at h;cases h
   | false=>rfl
 | false=>
  cases h:g lo with
  | true=>
   rw [if_pos rfl,jA hf (r:=lo) ⟨⋯,⋯,fun i h1 h2=>by omega,fun i h1 h2=>?_⟩]
   have z:=hm lo i ⋯ h1 h2
   rw [if_neg ()] at z
   exact z h
  | false=>
   rw [if_neg (),jA hf (r:=hi) ⟨⋯,bq _,fun i h1 h2=>?_,fun i h1 h2=>by omega⟩,uF]
   have z:=hm i (hi - 1) h1 ⋯ ⋯
   rw [if_neg ()] at z
   cases q:g i with
   | true=>rw [←e,h] at z;exact absurd (z q) ()
   | false=>rfl
theorem count_turn {g:Nat→Bool} {rising:Bool} {lo hi m:Nat} (hm:Oo g rising lo hi) (h1:lo≤m) (h2:m+1<hi) (hf:hi - lo<2 ^ 64) (e1:g m=g lo) (e2:g (m+1)= !g lo):countGood g rising lo hi=if g lo=true then m+1 - lo else hi - (m+1):=by
 cases rising with
 | true=>
  cases h:g lo with
  | true=>
   rw [h] at e1 e2
   rw [if_pos rfl,fw hf (r:=m+1) ⟨⋯,⋯,fun i a b=>?_,fun i a b=>?_⟩]
   ·have z:=hm i m a ⋯ ⋯
    rw [if_pos rfl] at z
    show(!g i)=false
    rw [z e1]
    rfl
   ·have z:=hm (m+1) i ⋯ a b
    rw [if_pos rfl] at z
    show(!g i)=true
    cases q:g i with
    | true=>rw [z q] at e2;cases e2
    | false=>rfl
  | false=>
   rw [h] at e1 e2
   have z:=hm m (m+1) h1 ⋯ h2
   rw [if_pos rfl] at z
   rw [z e2] at e1
   cases e1
 | false=>
  cases h:g lo with
  | true=>
   rw [h] at e1 e2
   have z:=hm m (m+1) h1 ⋯ h2
   rw [if_neg ()] at z
   rw [z e1] at e2
   cases e2
  | false=>
   rw [h] at e1 e2
   rw [if_neg (),jA hf (r:=m+1) ⟨⋯,⋯,fun i a b=>?_,fun i a b=>?_⟩]
   ·have z:=hm i m a ⋯ ⋯
    rw [if_neg ()] at z
    cases q:g i with
    | true=>rw [z q] at e1;cases e1
    | false=>rfl
   ·have z:=hm (m+1) i ⋯ a b
    rw [if_neg ()] at z
    exact z e2
end Hv
namespace Fr
open Vbdeab (Q mkQ Class Dist)
open Hv
def nk (b:Bool):Int:=if b=true then 1 else 0
theorem EC {strict:Bool} {a v:Q} {n d p q:Int} (ha:Iz a n d) (hv:Iz v p q):Vbdeab.under strict a v=true↔n*q+nk strict≤p*d:=by
 unfold Vbdeab.under nk
 cases strict with
 | true=>
  rw [if_pos rfl,if_pos rfl,ha.lt_iff hv]
  omega
 | false=>
  rw [if_neg (),if_neg (),ha.le_iff hv]
  omega
theorem CW {strict:Bool} {a b v:Q} (ha:lowQ a) (hb:lowQ b) (hv:lowQ v) (h:a.le b=true) (k:Vbdeab.under strict b v=true):Vbdeab.under strict a v=true:=by
 unfold Vbdeab.under at k⊢
 cases strict with
 | true=>
  rw [if_pos rfl] at k⊢
  rw [Oa] at k⊢
  cases q:v.le a with
  | false=>rfl
  | true=>
   rw [le_trans hv ha hb q h] at k
   cases k
 | false=>
  rw [if_neg ()] at k⊢
  exact le_trans ha hb hv h k
theorem G9 {q:Q} {n d:Int} (h:Iz q n d):0≤q.num↔0≤n:=by
 have v:=h.val
 have p1:(0:Int)<q.den:=by have:=h.pos;omega
 constructor
 ·intro z
  have:0≤n*(q.den:Int):=by rw [←v];exact Int.mul_nonneg z (fH h.dpos)
  exact MY this p1
 ·intro z
  have:0≤q.num*d:=by rw [v];exact Int.mul_nonneg z (fH p1)
  exact MY this h.dpos
def gc (a m:Int):Int:=if a<0 then 0 else if m<a then m else a
def pf (r room step n:Int):Int:=if r=0 then(if 0≤room then n else 0) else if 0<r then room /step+1 else n+room /step
theorem Hu {x s:Q} {n:Nat} (h:j3 (.comb x s n)) (hn:n<2 ^ 64) {v:Q} {p q:Int} (hv:Iz v p q) (strict:Bool):
  ((Vbdeab.countGood (fun i=>Vbdeab.under strict (tooth x s i) v) (decide (0≤s.num)) 0 n:Nat):Int)=
    gc (pf (cR (.comb x s n)) (p*cB (.comb x s n) - cO (.comb x s n)*q - nk strict) ((if cR (.comb x s n)<0 then - cR (.comb x s n) else cR (.comb x s n))*q) n) n:=by
 have sg:=G9 (vZ h)
 have good:∀i:Nat,Vbdeab.under strict (tooth x s i) v=true↔cR (.comb x s n)*q*i≤p*cB (.comb x s n) - cO (.comb x s n)*q - nk strict:=fun i=>by
  rw [EC (yr h i) hv]
  have:(cO (.comb x s n)+cR (.comb x s n)*i)*q=cO (.comb x s n)*q+cR (.comb x s n)*q*i:=by grind
  omega
 generalize cR (.comb x s n)=r at*
 generalize hroom:p*cB (.comb x s n) - cO (.comb x s n)*q - nk strict=room at*
 have hq:=hv.dpos
 have dec:decide (0≤s.num)=decide (0≤r):=by
  by_cases z:0≤r
  ·rw [aE z,aE (sg.mpr z)]
  ·rw [br z,br fun y=>z (sg.mp y)]
 rw [dec]
 have notg:∀i:Nat,¬(r*q*i≤room)→(Vbdeab.under strict (tooth x s i) v)=false:=fun i z=>by
  cases e:Vbdeab.under strict (tooth x s i) v with
  | false=>rfl
  | true=>exact absurd ((good i).mp e) z
 rcases Int.lt_trichotomy r 0 with hr | hr | hr
 ·
  rw [br ⋯]
  have hst:0< -r*q:=eZ ⋯ hq
  have hf:(if r<0 then -r else r)= -r:=if_pos hr
  rw [hf]
  have hre:pf r room (-r*q) n=n+room /(-r*q):=by unfold pf;rw [if_neg ⋯,if_neg ⋯]
  rw [hre]
  unfold gc
  generalize hs: -r*q=step at*
  have good':∀i:Nat,r*q*i= -(step*i):=fun i=>by rw [←hs];grind
  have hd:=Int.ediv_mul_le room (show step≠0 by omega)
  have hd2:=J1 room hst
  generalize hD:room /step=D at*
  have crit:∀i:Nat,r*q*i≤room↔-D≤i:=fun i=>by
   rw [good' i]
   constructor
   ·intro z
    refine Int.not_lt.mp fun y=>?_
    have y1:(i:Int)+1≤-D:=by omega
    have:step*((i:Int)+1)≤step*(-D):=C4 y1 (fH hst)
    have e1:step*((i:Int)+1)=step*i+step:=by grind
    have e2:step*(-D)= -(D*step):=by grind
    have e3:(D+1)*step=D*step+step:=by grind
    omega
   ·intro z
    have:step*(-D)≤step*i:=C4 z (fH hst)
    have e2:step*(-D)= -(D*step):=by grind
    omega
  let k:Nat:=if (-D)<0 then 0 else if (n:Int)< -D then n else(-D).toNat
  have hk:k≤n:=by show(if (-D)<0 then 0 else if (n:Int)< -D then n else(-D).toNat)≤n;split;omega;split<;>omega
  rw [jA (r:=k) ⋯ ⟨⋯,hk,fun i _ h2=>notg i fun z=>?_,fun i h1 h2=>(good i).mpr ((crit i).mpr ?_)⟩]
  ·show((n - (if (-D)<0 then 0 else if (n:Int)< -D then n else(-D).toNat):Nat):Int)=_
   repeat' split
   all_goals omega
  ·have z':=(crit i).mp z
   have h2':i<(if (-D)<0 then 0 else if (n:Int)< -D then n else(-D).toNat):=h2
   revert h2'
   repeat' split
   all_goals omega
  ·have h1':(if (-D)<0 then 0 else if (n:Int)< -D then n else(-D).toNat)≤i:=h1
   revert h1'
   repeat' split
   all_goals omega
 ·
  subst hr
  rw [aE ⋯]
  have hre:∀st,pf 0 room st n=if 0≤room then(n:Int) else 0:=fun st=>by unfold pf;rw [if_pos rfl]
  rw [hre]
  unfold gc
  by_cases z:0≤room
  ·rw [if_pos z,fw (r:=n) ⋯ ⟨⋯,bq _,fun i _ _=>?_,fun i h1 h2=>by omega⟩]
   ·repeat' split
    all_goals omega
   ·show(!Vbdeab.under _ _ _)=false
    rw [(good i).mpr (by simp;exact z)]
    rfl
  ·rw [if_neg z,fw (r:=0) ⋯ ⟨⋯,⋯,fun i _ _=>by omega,fun i h1 h2=>?_⟩]
   ·repeat' split
    all_goals omega
   ·show(!Vbdeab.under _ _ _)=true
    rw [notg i (by simp;omega)]
    rfl
 ·rw [aE ⋯]
  have hst:0<r*q:=eZ hr hq
  have hf:(if r<0 then -r else r)=r:=if_neg ⋯
  rw [hf]
  have hre:pf r room (r*q) n=room /(r*q)+1:=by unfold pf;rw [if_neg ⋯,if_pos hr]
  rw [hre]
  unfold gc
  generalize r*q=step at*
  have hd:=Int.ediv_mul_le room (show step≠0 by omega)
  have hd2:=J1 room hst
  generalize hD:room /step=D at*
  have crit:∀i:Nat,step*i≤room↔(i:Int)≤D:=fun i=>by
   constructor
   ·intro z
    refine Int.not_lt.mp fun y=>?_
    have y1:D+1≤(i:Int):=by omega
    have:step*(D+1)≤step*i:=C4 y1 (fH hst)
    have e1:step*(D+1)=(D+1)*step:=by grind
    omega
   ·intro z
    have:step*i≤step*D:=C4 z (fH hst)
    have e2:step*D=D*step:=by grind
    omega
  let k:Nat:=if D+1<0 then 0 else if (n:Int)<D+1 then n else(D+1).toNat
  have hk:k≤n:=by show(if D+1<0 then 0 else if (n:Int)<D+1 then n else(D+1).toNat)≤n;split;omega;split<;>omega
  rw [fw (r:=k) ⋯ ⟨⋯,hk,fun i _ h2=>?_,fun i h1 h2=>?_⟩]
  ·show((((if D+1<0 then 0 else if (n:Int)<D+1 then n else(D+1).toNat) - 0:Nat)):Int)=_
   repeat' split
   all_goals omega
  ·have h2':i<(if D+1<0 then 0 else if (n:Int)<D+1 then n else(D+1).toNat):=h2
   show(!Vbdeab.under _ _ _)=false
   rw [(good i).mpr ((crit i).mpr ?_)]
   ·rfl
   ·revert h2'
    repeat' split
    all_goals omega
  ·have h1':(if D+1<0 then 0 else if (n:Int)<D+1 then n else(D+1).toNat)≤i:=h1
   show(!Vbdeab.under _ _ _)=true
   rw [notg i fun z=>?_]
   ·rfl
   ·have z':=(crit i).mp z
    revert h1'
    repeat' split
    all_goals omega
end Fr
end
section
local macro_rules | `(tactic| omega)=>`(tactic| lia)
namespace Fr
open Vbdeab (Q mkQ Class Dist)
open Hv
def vY (r:Int):Int:=if r<0 then -r else r
theorem FX {r:Int} (h:r≠0):0<vY r:=by unfold vY;split<;>omega
def L5 (a b:Int):Int:=if b<a then b else a
def xJ (c:Class) (p q st:Int):Int:=match c with
 | .line x y=>if cR (.line x y)=0 then(if st≤p*cB (.line x y) - cO (.line x y)*q then 1 else 0) else
   gc (p*cB (.line x y) - L5 (cO (.line x y)) (cO (.line x y)+cR (.line x y))*q) (vY (cR (.line x y))*q)
 | .comb x s n=>gc (pf (cR (.comb x s n)) (p*cB (.comb x s n) - cO (.comb x s n)*q - st) (vY (cR (.comb x s n))*q) n) n
def vE (c:Class) (q:Int):Int:=match c with
 | .line x y=>if cR (.line x y)=0 then 1 else vY (cR (.line x y))*q
 | .comb _ _ n=>(n:Int)
theorem Gn {x y:Q} (h:j3 (.line x y)):x=y↔cR (.line x y)=0:=by
 have hx:=qp h
 have hy:=tJ h
 constructor
 ·intro e
  rw [←e] at hy
  have v1:=hx.val
  have v2:=hy.val
  have p:(0:Int)<x.den:=by have:=h.1.1;omega
  have e3:(cO (.line x y)+cR (.line x y))*(x.den:Int)=cO (.line x y)*(x.den:Int):=by
   rw [e] at v1 v2⊢
   omega
  have e4:cR (.line x y)*(x.den:Int)=0:=by
   have:(cO (.line x y)+cR (.line x y))*(x.den:Int)=cO (.line x y)*(x.den:Int)+cR (.line x y)*(x.den:Int):=Int.add_mul _ _ _
   omega
  rcases Int.mul_eq_zero.mp e4 with q | q
  ·exact q
  ·omega
 ·intro e
  rw [e,Int.add_zero] at hy
  exact hx.unique hy rfl
theorem LY {x y:Q} {a b d:Int} (hx:Iz x a d) (hy:Iz y b d):Iz (x.least y) (if a≤b then a else b) d:=by
 have z:=hx.le_iff hy
 have hd:=hx.dpos
 unfold Vbdeab.Q.least
 by_cases q:a≤b
 ·have q2:a*d≤b*d:=vT q (fH hd)
  rw [if_pos q,if_pos (z.mpr q2)]
  exact hx
 ·have q2:¬a*d≤b*d:=fun y=>q (HC y hd)
  rw [if_neg q,if_neg fun y=>q2 (z.mp y)]
  exact hy
theorem Nt {x y:Q} {a b d:Int} (hx:Iz x a d) (hy:Iz y b d):Iz (x.most y) (if a≤b then b else a) d:=by
 have z:=hx.le_iff hy
 have hd:=hx.dpos
 unfold Vbdeab.Q.most
 by_cases q:a≤b
 ·have q2:a*d≤b*d:=vT q (fH hd)
  rw [if_pos q,if_pos (z.mpr q2)]
  exact hy
 ·have q2:¬a*d≤b*d:=fun y=>q (HC y hd)
  rw [if_neg q,if_neg fun y=>q2 (z.mp y)]
  exact hx
theorem NB {c:Class} (h:j3 c) (hn:∀x s n,c= .comb x s n→n<2 ^ 64) {v:Q} {p q:Int} (hv:Iz v p q) (strict:Bool):Iz (c.part strict v) (xJ c p q (nk strict)) (vE c q):=by
 have hq:=hv.dpos
 cases c with
 | comb x s n=>
  have e:Class.part strict v (.comb x s n)=mkQ ((Vbdeab.countGood (fun i=>Vbdeab.under strict (tooth x s i) v) (decide (0≤s.num)) 0 n:Nat):Int) n:=rfl
  rw [e,Hu h (hn _ _ _ rfl) hv strict]
  exact(Is.mk' (d:=n) (by have:=h.2.2;omega)).iz
 | line x y=>
  have hx:=qp h
  have hy:=tJ h
  have eq:=Gn h
  have hB:=mt h
  unfold Class.part xJ vE
  simp only
  by_cases z:x=y
  ·rw [if_pos z,if_pos (eq.mp z),if_pos (eq.mp z)]
   have u:=EC (strict:=strict) hx hv
   by_cases w:Vbdeab.under strict x v=true
   ·rw [if_pos w,if_pos (by have:=u.mp w;omega)]
    exact Iz.ofNat 1
   ·rw [if_neg w,if_neg fun y=>w (u.mpr ⋯)]
    exact Iz.ofNat 0
  ·have hr:¬cR (.line x y)=0:=fun y=>z (eq.mpr y)
   rw [if_neg z,if_neg hr,if_neg hr]
   have hl:=LY hx hy
   have hm:=Nt hx hy
   generalize cO (.line x y)=o at*
   generalize cR (.line x y)=r at*
   generalize cB (.line x y)=b at*
   have emin:L5 o (o+r)=if o≤o+r then o else o+r:=by unfold L5;repeat' split;all_goals omega
   rw [emin]
   have e2:(if o≤o+r then o+r else o)=(if o≤o+r then o else o+r)+vY r:=by unfold vY;repeat' split;all_goals omega
   rw [e2] at hm
   have ha:=FX hr
   generalize vY r=a at*
   generalize (if o≤o+r then o else o+r)=lo at*
   have hw:0<a*q:=eZ ha hq
   have c1:=hv.le_iff hl
   have c2:=hm.le_iff hv
   have e3:(lo+a)*q=lo*q+a*q:=Int.add_mul _ _ _
   by_cases k1:v.le (x.least y)=true
   ·rw [if_pos k1]
    have e4:gc (p*b - lo*q) (a*q)=0:=by have:=c1.mp k1;unfold gc;repeat' split;all_goals omega
    rw [e4]
    exact Iz.zero hw
   ·have k1':¬p*b≤lo*q:=fun y=>k1 (c1.mpr y)
    rw [if_neg k1]
    by_cases k2:(x.most y).le v=true
    ·rw [if_pos k2]
     have e4:gc (p*b - lo*q) (a*q)=a*q:=by have:=c2.mp k2;unfold gc;repeat' split;all_goals omega
     rw [e4]
     exact(Iz.ofNat 1).conv hw (by simp)
    ·have k2':¬(lo+a)*q≤p*b:=fun y=>k2 (c2.mpr y)
     rw [if_neg k2]
     have e4:gc (p*b - lo*q) (a*q)=p*b - lo*q:=by unfold gc;repeat' split;all_goals omega
     rw [e4]
     have z:=(hv.sub hl).divPos (hm.sub hl) (by
      have:(lo+a)*b - lo*b=a*b:=by grind
      rw [this]
      exact eZ ha hB)
     refine z.conv hw ?_
     grind
theorem El {c:Class} (h:j3 c):c.rises=true↔0≤cR c:=by
 cases c with
 | line x y=>
  have z:=(qp h).le_iff (tJ h)
  have hB:=mt h
  show x.le y=true↔_
  rw [z]
  have e:(cO (.line x y)+cR (.line x y))*cB (.line x y)=cO (.line x y)*cB (.line x y)+cR (.line x y)*cB (.line x y):=Int.add_mul _ _ _
  constructor
  ·intro q
   have:0≤cR (.line x y)*cB (.line x y):=by omega
   exact MY this hB
  ·intro q
   have:=Int.mul_nonneg q (fH hB)
   omega
 | comb x s n=>
  show decide (0≤s.num)=true↔_
  rw [fC]
  exact G9 (vZ h)
theorem Ls {c:Class} {sp t t':Int} (hsp:0<sp) (h:t≤t'):(0≤cR c→Lj c t sp≤Lj c t' sp)∧(cR c≤0→Lj c t' sp≤Lj c t sp):=by
 cases c with
 | line x y=>
  unfold Lj
  simp only
  constructor
  ·intro q
   have:=C4 h q
   omega
  ·intro q
   have:=MX q h
   omega
 | comb x s n=>
  unfold Lj
  simp only
  have hm:t*n /sp≤t'*n /sp:=Int.ediv_le_ediv hsp (vT h ⋯)
  constructor
  ·intro q
   have:=C4 hm q
   omega
  ·intro q
   have:=MX q hm
   omega
theorem M9 {c:Class} (h:j3 c) {sp:Int} (hsp:0<sp):0<Os c sp:=by
 have hB:=mt h
 cases c with
 | line x y=>exact eZ hB hsp
 | comb x s n=>exact hB
theorem HX {c:Class} (h:j3 c) {w:Nat} (hw:0<w) {t t':Nat} (ht:t≤t'):
  if c.rises=true then(along w c t).le (along w c t')=true else(along w c t').le (along w c t)=true:=by
 have hsp:(0:Int)<(Vbdeab.M:Int)*w:=eZ N3 ⋯
 have z1:=tE h hw t
 have z2:=tE h hw t'
 obtain⟨m1,m2⟩:=Ls (c:=c) (t:=(t:Int)) (t':=(t':Int)) hsp ⋯
 have hD:=fH (M9 h hsp)
 by_cases q:c.rises=true
 ·rw [if_pos q,z1.le_iff z2]
  exact vT (m1 ((El h).mp q)) hD
 ·rw [if_neg q,z2.le_iff z1]
  have:¬0≤cR c:=fun y=>q ((El h).mpr y)
  exact vT (m2 ⋯) hD
def fx (strict:Bool) (v:Q) (W:Nat) (w:Nat) (c:Class) (b u:Nat):Bool:=Vbdeab.under strict (along w c (u*W - Vbdeab.M*b)) v
theorem LP {c:Class} (h:j3 c) {w:Nat} (hw:0<w) {v:Q} (hv:lowQ v) (strict:Bool) (W b lo hi:Nat):Oo (fx strict v W w c b) c.rises lo hi:=fun i j _ h2 _=>by
 have ht:i*W - Vbdeab.M*b≤j*W - Vbdeab.M*b:=Nat.sub_le_sub_right (Nat.mul_le_mul_right _ h2) _
 have z:=HX h hw ht
 have l1:=(tE h hw (i*W - Vbdeab.M*b)).lowQ
 have l2:=(tE h hw (j*W - Vbdeab.M*b)).lowQ
 by_cases q:c.rises=true
 ·rw [if_pos q] at z⊢
  exact fun k=>CW l1 l2 hv z k
 ·rw [if_neg q] at z⊢
  exact fun k=>CW l2 l1 hv z k
theorem JA {u a W:Nat} (hW:0<W):u<ceilDiv a W↔u*W<a:=by
 unfold ceilDiv
 rw [Nat.lt_iff_add_one_le,Nat.le_div_iff_mul_le hW,AD,oH]
 omega
theorem lX {u a W:Nat} (hW:0<W):ceilDiv a W≤u↔a≤u*W:=by
 have:=JA (u:=u) (a:=a) hW
 omega
theorem LB {a W:Nat} (hW:0<W): -(-(a:Int) /(W:Int))=((ceilDiv a W:Nat):Int):=by
 have h1:=(lX (u:=ceilDiv a W) (a:=a) hW).mp (bq _)
 have hW':(0:Int)<W:=by omega
 have k1:=Int.ediv_mul_le (-(a:Int)) (show(W:Int)≠0 by omega)
 have k2:=J1 (-(a:Int)) hW'
 generalize -(a:Int) /(W:Int)=D at*
 generalize hc:ceilDiv a W=c at*
 have hDn:0≤-D:=by
  refine Int.not_lt.mp fun q=>?_
  have:1*(W:Int)≤D*W:=vT ⋯ (fH hW')
  omega
 obtain⟨m,hm⟩:∃m:Nat,-D=(m:Int):=⟨(-D).toNat,⋯⟩
 have hD:D= -(m:Int):=by omega
 subst hD
 have a1:a≤m*W:=by
  have: -(m:Int)*W= -((m*W:Nat):Int):=by rw [b9];grind
  omega
 have a2:c≤m:=by rw [←hc];exact(lX hW).mpr a1
 have a3:m≤c:=by
  refine Nat.not_lt.mp fun q=>?_
  have q1:c*W+W≤m*W:=by
   have:(c+1)*W≤m*W:=Nat.mul_le_mul_right _ q
   rw [AD,oH] at this
   exact this
  have:(-(m:Int)+1)*W= -((m*W:Nat):Int)+W:=by rw [b9];grind
  omega
 omega
theorem yH {a b W:Nat} (hW:0<W) (h:a≤b):ceilDiv a W≤ceilDiv b W:=(lX hW).mpr (fS h ((lX hW).mp (bq _)))
theorem Kc {W:Nat} (hW:0<W) (m:Nat):ceilDiv (m*W) W=m:=by
 have h1:=(lX (u:=m) (a:=m*W) hW).mpr (bq _)
 have h2:=(lX (u:=ceilDiv (m*W) W) (a:=m*W) hW).mp (bq _)
 have h3:=Nat.le_of_mul_le_mul_right h2 hW
 omega
theorem D5 (W:Nat) (hW:0<W):ceilDiv 0 W=0:=by
 have h1:=(lX (u:=0) (a:=0) hW).mpr ⋯
 omega
def dF (d:Dist) (i:Nat):Nat:=Vbdeab.sum ((d.map fun c=>c.1).take i)
theorem tF (d:Dist):dF d 0=0:=rfl
theorem jz {d:Dist} {i:Nat} {c:Nat×Class} (h:d[i]?=some c):dF d (i+1)=dF d i+c.1:=Ch.eC (by rw [du,h];rfl)
theorem Nc (d:Dist):dF d d.length=total d:=by
 unfold dF total
 rw [lD (by rw [aD];exact bq _)]
theorem HY {d:Dist}:∀{i j:Nat},i≤j→dF d i≤dF d j:=fun {i j} h=>by
 obtain⟨k,rfl⟩:∃k,j=i+k:=⟨j - i,⋯⟩
 clear h
 induction k with
 | zero=>exact bq _
 | succ k ih=>
  cases e:d[i+k]? with
  | some c=>
   have:=jz e
   show dF d i≤dF d (i+k+1)
   omega
  | none=>
   have hl:=List.getElem?_eq_none_iff.mp e
   have:dF d (i+k+1)=dF d (i+k):=by
    unfold dF
    rw [lD (by rw [aD];omega),lD (by rw [aD];omega)]
   show dF d i≤dF d (i+k+1)
   omega
theorem BO:∀{d:Dist} {i x b:Nat} {w:Nat} {c:Class},d[i]?=some (w,c)→x<Vbdeab.M*(b+dF d (i+1))→(∀j,j<i→Vbdeab.M*(b+dF d (j+1))≤x)→locate d x b=some (w,c,x - Vbdeab.M*(b+dF d i))
 | [],i,_,_,_,_,h,_,_=>by simp at h
 | e::r,0,x,b,w,c,h,h1,_=>by
  simp at h
  subst h
  have:dF ((w,c)::r) 1=w:=by unfold dF;simp [Vbdeab.sum]
  rw [this] at h1
  unfold locate
  rw [if_pos h1,tF,lW]
 | e::r,i+1,x,b,w,c,h,h1,h2=>by
  obtain⟨w',c'⟩:=e
  have cons:∀j,dF ((w',c')::r) (j+1)=w'+dF r j:=fun j=>by unfold dF;rw [e9,List.take_succ_cons,Ch.sum_cons]
  have z0:=h2 0 ⋯
  rw [cons,tF,lW] at z0
  unfold locate
  rw [if_neg (Nat.not_lt.mpr z0)]
  have ih:=BO (d:=r) (i:=i) (x:=x) (b:=b+w') (w:=w) (c:=c) (by simpa using h) (by rw [cons] at h1;rw [yA];exact h1) fun j hj=>by
   have:=h2 (j+1) ⋯
   rw [cons] at this
   rw [yA]
   exact this
  rw [ih,cons,yA]
theorem MO {d:Dist} {i u w:Nat} {c:Class} (h:d[i]?=some (w,c)) (h1:u*total d<Vbdeab.M*dF d (i+1)) (h2:∀j,j<i→Vbdeab.M*dF d (j+1)≤u*total d):Vbdeab.value d u=along w c (u*total d - Vbdeab.M*dF d i):=by
 unfold Vbdeab.value
 rw [BO (b:=0) h (by rw [i7];exact h1) (fun j hj=>by rw [i7];exact h2 j hj)]
 simp only [i7]
theorem FY {d:Dist} {i:Nat} {c:Nat×Class} (h:d[i]?=some c):d.drop i=c::d.drop (i+1):=Ch.yK h
def qV (d:Dist) (i:Nat):List Nat:=sharesFrom (total d) (d.drop i) (dF d i)
theorem Fq (d:Dist):Vbdeab.shares d=qV d 0:=rfl
theorem G7 {d:Dist} {i:Nat} {c:Nat×Class} (h:d[i]?=some c):qV d i=(ceilDiv (Vbdeab.M*dF d (i+1)) (total d) - ceilDiv (Vbdeab.M*dF d i) (total d))::qV d (i+1):=by
 unfold qV
 rw [FY h,jz h]
 obtain⟨w,k⟩:=c
 rfl
theorem IG (d:Dist):qV d d.length= []:=by
 unfold qV
 rw [List.drop_length]
 rfl
def BL (strict:Bool) (v:Q) (d:Dist) (i:Nat):Nat:=hitsFrom strict v (total d) (d.drop i) (dF d i)
theorem Ic (strict:Bool) (v:Q) (d:Dist):Vbdeab.hits strict v d=BL strict v d 0:=rfl
theorem Kn {strict:Bool} {v:Q} {d:Dist} {i w:Nat} {c:Class} (h:d[i]?=some (w,c)):BL strict v d i=Vbdeab.countGood (fx strict v (total d) w c (dF d i)) c.rises (ceilDiv (Vbdeab.M*dF d i) (total d)) (ceilDiv (Vbdeab.M*dF d (i+1)) (total d))+BL strict v d (i+1):=by
 unfold BL
 rw [FY h,jz h]
 rfl
theorem LQ (strict:Bool) (v:Q) (d:Dist):BL strict v d d.length=0:=by
 unfold BL
 rw [List.drop_length]
 rfl
theorem F8 {g:Nat→Bool} {r:Bool} (lo:Nat):Vbdeab.countGood g r lo lo=0:=by
 have f:∀p,Vbdeab.firstAt p 64 lo lo=lo:=fun p=>by unfold Vbdeab.firstAt;rw [if_neg (sM _)]
 unfold Vbdeab.countGood
 rw [f,f]
 split<;>omega
end Fr
end
section
local macro_rules | `(tactic| omega)=>`(tactic| lia)
namespace Kd
open Vbdeab (Q mkQ Class Dist fraction BIG)
open Fr
def a7 {α:Type}:List (Option α)→Option (List α)
 | []=>some []
 | none::_=>none
 | some a::r=>(a7 r).map (a::·)
theorem B3 {α β:Type} (f:α→β):∀l:List (Option α),a7 (l.map (Option.map f))=(a7 l).map (List.map f)
 | []=>rfl
 | none::r=>rfl
 | some a::r=>by
  show(a7 (r.map (Option.map f))).map (f a::·)=((a7 r).map (a::·)).map (List.map f)
  rw [B3 f r]
  cases a7 r<;>rfl
theorem qF {α:Type}:∀{l:List (Option α)} {r:List α},a7 l=some r→r.length=l.length
 | [],r,h=>by cases h;rfl
 | none::_,r,h=>by cases h
 | some a::l,r,h=>by
  cases e:a7 l with
  | none=>rw [a7,e] at h;cases h
  | some r'=>
   rw [a7,e] at h
   cases h
   rw [d8,d8,qF e]
theorem wo {α:Type}:∀{l:List (Option α)} {r:List α},a7 l=some r→l=r.map some
 | [],r,h=>by cases h;rfl
 | none::_,r,h=>by cases h
 | some a::l,r,h=>by
  cases e:a7 l with
  | none=>rw [a7,e] at h;cases h
  | some r'=>
   rw [a7,e] at h
   cases h
   rw [e9,←wo e]
theorem nF {α:Type}:∀(r:List α),a7 (r.map some)=some r
 | []=>rfl
 | a::r=>by
  show(a7 (r.map some)).map (a::·)=_
  rw [nF r]
  rfl
theorem GK {α:Type} {l:List (Option α)} (h:none∈l):a7 l=none:=by
 cases e:a7 l with
 | none=>rfl
 | some r=>
  rw [wo e] at h
  obtain⟨x,_,hx⟩:=lV.mp h
  cases hx
def sm:Option Class→Option Class:=fun o=>o.bind fun c=>if c.small=true then some c else none
def FT (l:List Class):Option (List Class):=if (l.all fun c=>c.small)=true then some l else none
theorem yX:∀l:List (Option Class),a7 (l.map sm)=(a7 l).bind FT
 | []=>rfl
 | none::r=>rfl
 | some c::r=>by
  have ih:=yX r
  rw [e9]
  by_cases q:c.small=true
  ·have e:sm (some c)=some c:=by show(if c.small=true then some c else none)=_;rw [if_pos q]
   rw [e]
   show(a7 (r.map sm)).map (c::·)=((a7 r).map (c::·)).bind FT
   rw [ih]
   cases a7 r with
   | none=>rfl
   | some z=>
    show(FT z).map (c::·)=FT (c::z)
    unfold FT
    rw [C7,q,Bool.true_and]
    split<;>rfl
  ·have e:sm (some c)=none:=by show(if c.small=true then some c else none)=_;rw [if_neg q]
   rw [e]
   show none=((a7 r).map (c::·)).bind FT
   cases a7 r with
   | none=>rfl
   | some z=>
    show none=FT (c::z)
    unfold FT
    rw [C7]
    simp [q]
def xh (a:List Int) (os:List (Option Class)):Option Dist:=match weights a,a7 os with
 | some ws,some l=>some (ws.zip l)
 | _,_=>none
theorem wP {a:List Int} {ws:List Nat} (h:weights a=some ws):ws=a.map Int.toNat∧weightsOk ws=true∧∀x∈a,0≤x:=by
 unfold weights at h
 split at h
 ·rename_i hc
  cases h
  exact⟨rfl,hc.2,fun x hx=>bn (Az.mp hc.1 x hx)⟩
 ·cases h
theorem Bu {ws:List Nat} {l:List Class} (h:ws.length=l.length):(ws.zip l).map (fun c=>c.1)=ws:=by
 have:=List.map_fst_zip (l₁:=ws) (l₂:=l) ⋯
 exact this
theorem J0:∀{ws:List Nat} {l:List Class},ws.length=l.length→((ws.zip l).all fun c=>c.2.small)=l.all fun c=>c.small
 | [],[],_=>rfl
 | a::ws,c::l,h=>by
  rw [List.zip_cons_cons,C7,C7,J0 (by simpa using h)]
 | [],_::_,h=>by simp at h
 | _::_,[],h=>by simp at h
theorem nq {a:List Int} {ws:List Nat} {l:List Class} (h:weights a=some ws) (hl:ws.length=l.length):checked (some (ws.zip l))=(FT l).map (ws.zip ·):=by
 obtain⟨_,h2,_⟩:=wP h
 unfold checked Vbdeab.ok FT
 simp only
 rw [Bu hl,h2,Bool.true_and,J0 hl]
 split<;>rfl
theorem oT {a:List Int} {os:List (Option Class)} (hl:os.length=a.length):checked (joined a a.length (a7 os))=xh a (os.map sm):=by
 unfold joined xh
 rw [yX]
 cases hw:weights a with
 | none=>rfl
 | some ws=>
  have hws:ws.length=a.length:=by rw [(wP hw).1,aD]
  cases ho:a7 os with
  | none=>rfl
  | some l=>
   have hl2:=qF ho
   simp only
   rw [if_pos ⟨hws,⋯⟩,nq hw ⋯]
   show(FT l).map _=_
   show _=(match some ws,FT l with | some ws,some l=>some (ws.zip l) | _,_=>none)
   cases FT l<;>rfl
theorem v7 {a:List Int} {cs:Option (List Class)} (h:∀l,cs=some l→l.length≠a.length):joined a a.length cs=none:=by
 unfold joined
 cases weights a with
 | none=>rfl
 | some ws=>
  cases cs with
  | none=>rfl
  | some l=>
   simp only
   rw [if_neg fun z=>h l rfl z.2]
def aU (b:List Int) (j:Nat):Option Q:=fraction (b.getD j 0) (b.getD (j+1) 0)
theorem gE {α:Type} (f:Nat→α) (n:Nat):(List.range (n+1)).map f=f 0::(List.range n).map fun i=>f (i+1):=by
 rw [J3,e9,fu]
 rfl
theorem qg:∀(n:Nat) (b:List Int),b.length=2*n→fractions b=a7 ((List.range n).map fun i=>aU b (2*i))
 | 0,b,h=>by
  have:b= []:=EF ⋯
  subst this
  rfl
 | n+1,b,h=>by
  match b,h with
  | p::q::r,h=>
   have ih:=qg n r (by simp at h;omega)
   rw [gE]
   have e:(fun i=>aU (p::q::r) (2*(i+1)))=fun i=>aU r (2*i):=by
    funext i
    unfold aU
    have e1:2*(i+1)=2*i+1+1:=by omega
    rw [e1]
    rfl
   rw [e]
   have e0:aU (p::q::r) (2*0)=fraction p q:=rfl
   rw [e0]
   unfold fractions
   rw [ih]
   cases fraction p q with
   | none=>rfl
   | some x=>
    show _=(a7 _).map (x::·)
    cases a7 ((List.range n).map fun i=>aU r (2*i))<;>rfl
  | [x],h=>simp at h;omega
  | [],h=>simp at h
theorem ol:∀{b:List Int} {l:List Q},fractions b=some l→b.length=2*l.length
 | [],l,h=>by cases h;rfl
 | [x],l,h=>by cases h
 | p::q::r,l,h=>by
  unfold fractions at h
  cases e1:fraction p q with
  | none=>rw [e1] at h;cases h
  | some x=>
   cases e2:fractions r with
   | none=>rw [e1,e2] at h;cases h
   | some z=>
    rw [e1,e2] at h
    cases h
    have:=ol e2
    simp only [d8]
    omega
theorem gy {n d:Int} {q:Q} (h:fraction n d=some q):q.small=true∧lowQ q∧q=mkQ n d.toNat∧1≤d:=by
 unfold Vbdeab.fraction at h
 split at h
 ·rename_i hc
  cases h
  exact⟨hc.2,(Iz.mk' (n:=n) (d:=d) ⋯).lowQ,rfl,hc.1⟩
 ·cases h
theorem tV (q:Q):(point q).small=q.small:=by
 show(q.small && (Q.mk 0 1).small && decide (1≤1) && decide (1≤BIG))=_
 have e1:(Q.mk 0 1).small=true:=by decide
 have e2:decide (1≤BIG)=true:=by decide
 rw [e1,e2]
 simp
def tU (o:Option Q):Option Class:=o.map point
def j8 (x y:Option Q):Option Class:=match x,y with
 | some a,some b=>some (.line a b)
 | _,_=>none
def nu (x s:Option Q) (n:Int):Option Class:=match x,s with
 | some a,some b=>if 1≤n∧n≤1000000000000000000 then some (.comb a b n.toNat) else none
 | _,_=>none
theorem PH {a b:List Int} (h:b.length=2*a.length):checked (build 2 a b)=xh a ((List.range a.length).map fun i=>tU (aU b (2*i))):=by
 have e:build 2 a b=joined a a.length ((fractions b).map fun l=>l.map point):=by unfold build;rw [if_pos rfl]
 rw [e,qg _ b h]
 have e2:=B3 point ((List.range a.length).map fun i=>aU b (2*i))
 rw [show(Option.map (fun l=>l.map point))=Option.map (List.map point) from rfl,←e2,oT (by simp)]
 rw [fu,fu]
 congr 1
 refine oa fun i _=>?_
 show sm ((aU b (2*i)).map point)=tU (aU b (2*i))
 cases e3:aU b (2*i) with
 | none=>rfl
 | some x=>
  show(if (point x).small=true then _ else _)=_
  rw [tV,if_pos (gy e3).1]
  rfl
theorem Ks {a b:List Int} (h:b.length≠2*a.length):checked (build 2 a b)=none:=by
 have e:build 2 a b=joined a a.length ((fractions b).map fun l=>l.map point):=by unfold build;rw [if_pos rfl]
 rw [e,v7]
 ·rfl
 ·intro l hl hx
  cases e1:fractions b with
  | none=>rw [e1] at hl;cases hl
  | some z=>
   rw [e1] at hl
   cases hl
   have:=ol e1
   rw [aD] at hx
   omega
theorem v9 {x y:Q} (hx:x.small=true) (hy:y.small=true):(Class.line x y).small=true:=by show(x.small && y.small)=true;rw [hx,hy];rfl
theorem Ee:∀(n:Nat) (f:Nat→Option Q),a7 ((List.range (n+1)).map fun i=>j8 (f i) (f (i+1)))=(a7 ((List.range (n+2)).map f)).map links
 | 0,f=>by
  show a7 [j8 (f 0) (f 1)]=(a7 [f 0,f 1]).map _
  cases f 0 with
  | none=>rfl
  | some x=>
   cases f 1 with
   | none=>rfl
   | some y=>rfl
 | n+1,f=>by
  have ih:=Ee n fun i=>f (i+1)
  rw [gE _ (n+1),gE _ (n+2)]
  cases e0:f 0 with
  | none=>rfl
  | some x=>
   cases e1:f 1 with
   | none=>
    have z:a7 ((List.range (n+2)).map fun i=>f (i+1))=none:=by
     rw [gE _ (n+1),e1]
     rfl
    show none=((a7 _).map (x::·)).map links
    rw [z]
    rfl
   | some y=>
    show(a7 _).map (Class.line x y::·)=((a7 _).map (x::·)).map links
    rw [ih]
    rw [gE _ (n+1),e1]
    show(((a7 _).map (y::·)).map links).map _=(((a7 _).map (y::·)).map _).map _
    cases a7 ((List.range (n+1)).map fun i=>f (i+1+1)) with
    | none=>rfl
    | some z=>rfl
theorem Ng (os:List (Option Class)):xh [] os=none:=rfl
theorem PJ {a b:List Int} (h:b.length=2*a.length+2):checked (build 3 a b)=xh a ((List.range a.length).map fun i=>j8 (aU b (2*i)) (aU b (2*i+2))):=by
 have e:build 3 a b=(match fractions b with
  | some l=>if l.length=a.length+1 then joined a a.length (some (links l)) else none
  | none=>none):=by unfold build;rw [if_neg (),if_pos rfl];rfl
 rw [e,qg (a.length+1) b ⋯]
 cases ha:a with
 | nil=>
  rw [Ng]
  cases a7 ((List.range (([]:List Int).length+1)).map fun i=>aU b (2*i)) with
  | none=>rfl
  | some l=>
   simp only
   split<;>rfl
 | cons a0 ar=>
  have hn:(a0::ar).length=ar.length+1:=rfl
  rw [hn]
  have k:=Ee ar.length fun i=>aU b (2*i)
  have k2:((List.range (ar.length+1)).map fun i=>j8 (aU b (2*i)) (aU b (2*i+2)))=((List.range (ar.length+1)).map fun i=>j8 (aU b (2*i)) (aU b (2*(i+1)))):=rfl
  rw [k2]
  have smid:(((List.range (ar.length+1)).map fun i=>j8 (aU b (2*i)) (aU b (2*(i+1)))).map sm)=((List.range (ar.length+1)).map fun i=>j8 (aU b (2*i)) (aU b (2*(i+1)))):=by
   rw [fu]
   refine oa fun i _=>?_
   show sm (j8 (aU b (2*i)) (aU b (2*(i+1))))=_
   cases e1:aU b (2*i) with
   | none=>rfl
   | some x=>
    cases e2:aU b (2*(i+1)) with
    | none=>rfl
    | some y=>
     show(if (Class.line x y).small=true then _ else _)=_
     rw [if_pos (v9 (gy e1).1 (gy e2).1)]
     rfl
  rw [←smid,←oT (a:=a0::ar) (by simp),k,hn]
  cases ho:a7 ((List.range (ar.length+2)).map fun i=>aU b (2*i)) with
  | none=>
   show checked none=checked (joined (a0::ar) (ar.length+1) none)
   unfold joined
   cases weights (a0::ar)<;>rfl
  | some l=>
   have hl:=qF ho
   rw [aD,ft] at hl
   simp only
   rw [if_pos ⋯]
   rfl
theorem Kt {a b:List Int} (h:b.length≠2*a.length+2):checked (build 3 a b)=none:=by
 have e:build 3 a b=(match fractions b with
  | some l=>if l.length=a.length+1 then joined a a.length (some (links l)) else none
  | none=>none):=by unfold build;rw [if_neg (),if_pos rfl];rfl
 rw [e]
 cases e1:fractions b with
 | none=>rfl
 | some l=>
  have:=ol e1
  simp only
  rw [if_neg ⋯]
  rfl
def mF (x y:Int):Option Class:=if x≤y∧x.natAbs≤BIG∧y.natAbs≤BIG then some (.comb (Vbdeab.ofInt x) ⟨1,1⟩ (y - x+1).toNat) else none
def kO (x y:Int):Option Class:=if x≤y∧x.natAbs≤BIG∧y.natAbs≤BIG∧y - x+1≤1000000000000000000 then some (.comb (Vbdeab.ofInt x) ⟨1,1⟩ (y - x+1).toNat) else none
theorem oj:BIG=1000000000000000000:=rfl
theorem tN {z:Int} (h:z.natAbs≤BIG):(Vbdeab.ofInt z).small=true:=by
 unfold Vbdeab.Q.small Vbdeab.ofInt
 simp only [yx,fC]
 exact⟨⟨h,()⟩,()⟩
theorem KS:(Q.mk 1 1).small=true:=by decide
theorem Ha (x y:Int):sm (mF x y)=kO x y:=by
 unfold mF kO
 by_cases h:x≤y∧x.natAbs≤BIG∧y.natAbs≤BIG
 ·rw [if_pos h]
  show(if (Class.comb (Vbdeab.ofInt x) ⟨1,1⟩ (y - x+1).toNat).small=true then _ else _)=_
  have e:(Class.comb (Vbdeab.ofInt x) ⟨1,1⟩ (y - x+1).toNat).small=(decide (1≤(y - x+1).toNat) && decide ((y - x+1).toNat≤BIG)):=by
   show((Vbdeab.ofInt x).small && (Q.mk 1 1).small && decide (1≤(y - x+1).toNat) && decide ((y - x+1).toNat≤BIG))=_
   rw [tN h.2.1,KS]
   simp
  rw [e]
  have h1:=h.1
  by_cases k:y - x+1≤1000000000000000000
  ·have c:(decide (1≤(y - x+1).toNat) && decide ((y - x+1).toNat≤BIG))=true:=by
    rw [aE (show 1≤(y - x+1).toNat by omega),aE (show(y - x+1).toNat≤BIG by rw [oj];omega)]
    rfl
   rw [if_pos c,if_pos ⟨h.1,h.2.1,h.2.2,k⟩]
  ·have c:¬(decide (1≤(y - x+1).toNat) && decide ((y - x+1).toNat≤BIG))=true:=by
    rw [br (show ¬(y - x+1).toNat≤BIG by rw [oj];omega),Bool.and_false]
    decide
   rw [if_neg c,if_neg fun z=>k z.2.2.2]
 ·rw [if_neg h,if_neg fun z=>h ⟨z.1,z.2.1,z.2.2.1⟩]
  rfl
theorem Ek:∀(n:Nat) (b:List Int),b.length=2*n→ranges b=a7 ((List.range n).map fun i=>mF (b.getD (2*i) 0) (b.getD (2*i+1) 0))
 | 0,b,h=>by
  have:b= []:=EF ⋯
  subst this
  rfl
 | n+1,b,h=>by
  match b,h with
  | p::q::r,h=>
   have ih:=Ek n r (by simp at h;omega)
   rw [gE]
   have e:(fun i=>mF ((p::q::r).getD (2*(i+1)) 0) ((p::q::r).getD (2*(i+1)+1) 0))=fun i=>mF (r.getD (2*i) 0) (r.getD (2*i+1) 0):=by
    funext i
    have e1:2*(i+1)=2*i+1+1:=by omega
    rw [e1]
    rfl
   rw [e]
   have e0:mF ((p::q::r).getD (2*0) 0) ((p::q::r).getD (2*0+1) 0)=mF p q:=rfl
   rw [e0]
   unfold ranges
   rw [ih]
   unfold mF
   cases e2:a7 ((List.range n).map fun i=>if r.getD (2*i) 0≤r.getD (2*i+1) 0∧(r.getD (2*i) 0).natAbs≤BIG∧(r.getD (2*i+1) 0).natAbs≤BIG then some (Class.comb (Vbdeab.ofInt (r.getD (2*i) 0)) ⟨1,1⟩ (r.getD (2*i+1) 0 - r.getD (2*i) 0+1).toNat) else none) with
   | none=>
    by_cases c:p≤q∧p.natAbs≤BIG∧q.natAbs≤BIG
    ·rw [if_pos c]
     show none=(a7 _).map _
     rw [e2]
     rfl
    ·rw [if_neg c]
     rfl
   | some l=>
    simp only
    by_cases c:p≤q∧p.natAbs≤BIG∧q.natAbs≤BIG
    ·rw [if_pos c,if_pos c]
     show _=(a7 _).map _
     rw [e2]
     rfl
    ·rw [if_neg c,if_neg c]
     rfl
  | [x],h=>simp at h;omega
  | [],h=>simp at h
theorem B6:∀{b:List Int} {l:List Class},ranges b=some l→b.length=2*l.length
 | [],l,h=>by cases h;rfl
 | [x],l,h=>by cases h
 | p::q::r,l,h=>by
  unfold ranges at h
  cases e2:ranges r with
  | none=>rw [e2] at h;cases h
  | some z=>
   rw [e2] at h
   simp only at h
   split at h
   ·cases h
    have:=B6 e2
    simp only [d8]
    omega
   ·cases h
theorem PK {a b:List Int} (h:b.length=2*a.length):checked (build 4 a b)=xh a ((List.range a.length).map fun i=>kO (b.getD (2*i) 0) (b.getD (2*i+1) 0)):=by
 have e:build 4 a b=joined a a.length (ranges b):=by unfold build;rw [if_neg (),if_neg (),if_pos rfl]
 rw [e,Ek _ b h,oT (by simp),fu]
 congr 1
 exact oa fun i _=>Ha _ _
theorem Ku {a b:List Int} (h:b.length≠2*a.length):checked (build 4 a b)=none:=by
 have e:build 4 a b=joined a a.length (ranges b):=by unfold build;rw [if_neg (),if_neg (),if_pos rfl]
 rw [e,v7]
 ·rfl
 ·intro l hl hx
  have:=B6 hl
  omega
def yq (t n:Int) (x y:Option Q):Option Class:=match x,y with
 | some x,some y=>if t=0∧n=0 then some (.line x y) else if t=1∧1≤n then some (.comb x y n.toNat) else none
 | _,_=>none
def MJ (t n:Int) (x y:Option Q):Option Class:=if t=0∧n=0 then j8 x y else if t=1 then nu x y n else none
def rp (b:List Int) (j:Nat):Option Class:=MJ (b.getD j 0) (b.getD (j+5) 0) (aU b (j+1)) (aU b (j+3))
theorem BE {x s:Q} {n:Nat} (hx:x.small=true) (hs:s.small=true):(Class.comb x s n).small=(decide (1≤n) && decide (n≤BIG)):=by
 show(x.small && s.small && decide (1≤n) && decide (n≤BIG))=_
 rw [hx,hs]
 simp
theorem NQ {t n:Int} {x y:Option Q} (hx:∀q,x=some q→q.small=true) (hy:∀q,y=some q→q.small=true):sm (yq t n x y)=MJ t n x y:=by
 unfold yq MJ
 cases x with
 | none=>
  show none=_
  unfold j8 nu
  simp
 | some p=>
  cases y with
  | none=>
   show none=_
   unfold j8 nu
   simp
  | some q=>
   simp only
   by_cases c:t=0∧n=0
   ·rw [if_pos c,if_pos c]
    show(if (Class.line p q).small=true then _ else _)=_
    rw [if_pos (v9 (hx _ rfl) (hy _ rfl))]
    rfl
   ·rw [if_neg c,if_neg c]
    by_cases c1:t=1
    ·rw [if_pos c1]
     unfold nu
     simp only
     by_cases c2:1≤n
     ·rw [if_pos ⟨c1,c2⟩]
      show(if (Class.comb p q n.toNat).small=true then _ else _)=_
      rw [BE (hx _ rfl) (hy _ rfl)]
      by_cases c3:n≤1000000000000000000
      ·have c4:(decide (1≤n.toNat) && decide (n.toNat≤BIG))=true:=by
        rw [aE (show 1≤n.toNat by omega),aE (show n.toNat≤BIG by rw [oj];omega)]
        rfl
       rw [if_pos c4,if_pos ⟨c2,c3⟩]
      ·have c4:¬(decide (1≤n.toNat) && decide (n.toNat≤BIG))=true:=by
        rw [br (show ¬n.toNat≤BIG by rw [oj];omega),Bool.and_false]
        decide
       rw [if_neg c4,if_neg fun z=>c3 z.2]
     ·rw [if_neg fun z=>c2 z.2,if_neg fun z=>c2 z.1]
      rfl
    ·rw [if_neg fun z=>c1 z.1,if_neg c1]
     rfl
theorem BC:∀(n:Nat) (b:List Int),b.length=6*n→classes b=a7 ((List.range n).map fun i=>yq (b.getD (6*i) 0) (b.getD (6*i+5) 0) (aU b (6*i+1)) (aU b (6*i+3)))
 | 0,b,h=>by
  have:b= []:=EF ⋯
  subst this
  rfl
 | n+1,b,h=>by
  match b,h with
  | t::p::q::p2::q2::m::r,h=>
   have ih:=BC n r (by simp at h;omega)
   rw [gE]
   have e:(fun i=>yq ((t::p::q::p2::q2::m::r).getD (6*(i+1)) 0) ((t::p::q::p2::q2::m::r).getD (6*(i+1)+5) 0) (aU (t::p::q::p2::q2::m::r) (6*(i+1)+1)) (aU (t::p::q::p2::q2::m::r) (6*(i+1)+3)))=fun i=>yq (r.getD (6*i) 0) (r.getD (6*i+5) 0) (aU r (6*i+1)) (aU r (6*i+3)):=by
    funext i
    have e1:6*(i+1)=6*i+1+1+1+1+1+1:=by omega
    rw [e1]
    rfl
   rw [e]
   have e0:yq ((t::p::q::p2::q2::m::r).getD (6*0) 0) ((t::p::q::p2::q2::m::r).getD (6*0+5) 0) (aU (t::p::q::p2::q2::m::r) (6*0+1)) (aU (t::p::q::p2::q2::m::r) (6*0+3))=yq t m (fraction p q) (fraction p2 q2):=rfl
   rw [e0]
   unfold classes
   rw [ih]
   have cons:∀(o:Option Class) (l:List (Option Class)),a7 (o::l)=match o,a7 l with | some c,some z=>some (c::z) | _,_=>none:=fun o l=>by
    cases o with
    | none=>rfl
    | some c=>show(a7 l).map _=_;cases a7 l<;>rfl
   rw [cons]
   generalize a7 ((List.range n).map fun i=>yq (r.getD (6*i) 0) (r.getD (6*i+5) 0) (aU r (6*i+1)) (aU r (6*i+3)))=O at*
   cases fraction p q with
   | none=>rfl
   | some x=>
    cases fraction p2 q2 with
    | none=>rfl
    | some y=>
     unfold yq
     cases O with
     | none=>
      simp only
      repeat' split
      all_goals first | rfl | simp_all
     | some z=>
      simp only
      repeat' split
      all_goals first | rfl | simp_all
  | [],h=>simp at h
  | [_],h=>simp at h;omega
  | [_,_],h=>simp at h;omega
  | [_,_,_],h=>simp at h;omega
  | [_,_,_,_],h=>simp at h;omega
  | [_,_,_,_,_],h=>simp at h;omega
theorem z7:∀{b:List Int} {l:List Class},classes b=some l→b.length=6*l.length
 | [],l,h=>by cases h;rfl
 | [_],l,h=>by cases h
 | [_,_],l,h=>by cases h
 | [_,_,_],l,h=>by cases h
 | [_,_,_,_],l,h=>by cases h
 | [_,_,_,_,_],l,h=>by cases h
 | t::p::q::p2::q2::m::r,l,h=>by
  unfold classes at h
  cases e1:fraction p q with
  | none=>rw [e1] at h;cases h
  | some x=>
   cases e2:fraction p2 q2 with
   | none=>rw [e1,e2] at h;cases h
   | some y=>
    cases e3:classes r with
    | none=>rw [e1,e2,e3] at h;cases h
    | some z=>
     have ih:=z7 e3
     rw [e1,e2,e3] at h
     simp only at h
     split at h
     ·cases h
      simp only [d8]
      omega
     ·split at h
      ·cases h
       simp only [d8]
       omega
      ·cases h
theorem PL {a b:List Int} (h:b.length=6*a.length):checked (build 5 a b)=xh a ((List.range a.length).map fun i=>rp b (6*i)):=by
 have e:build 5 a b=joined a a.length (classes b):=by unfold build;rw [if_neg (),if_neg (),if_neg (),if_pos rfl]
 rw [e,BC _ b h,oT (by simp),fu]
 congr 1
 exact oa fun i _=>NQ (fun q hq=>(gy hq).1) (fun q hq=>(gy hq).1)
theorem Kv {a b:List Int} (h:b.length≠6*a.length):checked (build 5 a b)=none:=by
 have e:build 5 a b=joined a a.length (classes b):=by unfold build;rw [if_neg (),if_neg (),if_neg (),if_pos rfl]
 rw [e,v7]
 ·rfl
 ·intro l hl hx
  have:=z7 hl
  omega
theorem D3 {kind:Int} (a:List Int) {b:List Int} (h2:kind≠2) (h3:kind≠3) (h4:kind≠4) (h5:kind≠5) (hb:b≠ []):build kind a b=none:=by
 unfold build
 rw [if_neg h2,if_neg h3,if_neg h4,if_neg h5,if_pos hb]
theorem B5:∀(ws:List Nat) (i:Nat),points ws i=ws.zip ((List.range ws.length).map fun j=>point (Vbdeab.ofNat (i+j)))
 | [],i=>rfl
 | w::r,i=>by
  rw [d8,gE,List.zip_cons_cons]
  have ih:=B5 r (i+1)
  have e:points (w::r) i=(w,point (Vbdeab.ofNat i))::points r (i+1):=by rw [points]
  rw [e,ih]
  congr 2
  refine oa fun j _=>?_
  have:i+1+j=i+(j+1):=by omega
  rw [this]
theorem jQ (ws:List Nat):weights (nats ws)=if weightsOk ws=true then some ws else none:=by
 unfold weights
 have e:(nats ws).map Int.toNat=ws:=by
  unfold nats
  rw [fu]
  have:(Int.toNat∘Int.ofNat)=id:=by funext n;rfl
  rw [this,List.map_id]
 have e2:((nats ws).all fun w=>decide (0≤w))=true:=Az.mpr fun x hx=>by
  obtain⟨n,_,rfl⟩:=lV.mp hx
  exact aE (Int.natCast_nonneg n)
 rw [e,e2]
 by_cases h:weightsOk ws=true
 ·rw [if_pos ⟨rfl,h⟩,if_pos h]
 ·rw [if_neg fun z=>h z.2,if_neg h]
def gv (first n:Nat):List (Option Class):=(List.range n).map fun j=>some (point (Vbdeab.ofNat (first+j)))
theorem jF {ws:List Nat} {i:Nat} (h:i+ws.length≤BIG):checked (some (points ws i))=xh (nats ws) (gv i ws.length):=by
 have e:gv i ws.length=(((List.range ws.length).map fun j=>point (Vbdeab.ofNat (i+j))).map some):=by unfold gv;rw [fu];rfl
 unfold xh
 rw [jQ,e,nF,B5]
 have hs:(((List.range ws.length).map fun j=>point (Vbdeab.ofNat (i+j))).all fun c=>c.small)=true:=Az.mpr fun c hc=>by
  obtain⟨j,hj,rfl⟩:=lV.mp hc
  rw [List.mem_range] at hj
  rw [tV]
  exact tN (z:=((i+j:Nat):Int)) ⋯
 by_cases hw:weightsOk ws=true
 ·rw [if_pos hw,nq (a:=nats ws) (by rw [jQ,if_pos hw]) (by simp)]
  unfold FT
  rw [if_pos hs]
  rfl
 ·rw [if_neg hw]
  unfold checked Vbdeab.ok
  simp only
  rw [Bu (by simp),if_neg (by simp [hw])]
theorem eJ (n lo hi:Int):within n lo hi=decide (lo≤n∧n≤hi):=by
 unfold within
 by_cases h1:lo≤n<;>by_cases h2:n≤hi<;>simp [h1,h2]
theorem PD (p q:Int):checked (build 0 [p,q] [])=xh [1] [tU (fraction p q)]:=by
 have e:build 0 [p,q] []=(fraction p q).map fun v=> [(1,point v)]:=rfl
 rw [e]
 cases e1:fraction p q with
 | none=>rfl
 | some v=>
  show checked (some ([1].zip [point v]))=_
  rw [nq (a:= [1]) (ws:= [1]) rfl rfl]
  unfold FT
  rw [if_pos (by rw [C7,tV,(gy e1).1];rfl)]
  rfl
theorem PF (x y:Int):checked (build 1 [x,y] [])=xh [1] [kO x y]:=by
 have e:build 1 [x,y] []=if x≤y∧x.natAbs≤BIG∧y.natAbs≤BIG then some [(1,.comb (Vbdeab.ofInt x) ⟨1,1⟩ (y - x+1).toNat)] else none:=rfl
 have e2:(if x≤y∧x.natAbs≤BIG∧y.natAbs≤BIG then some [(1,Class.comb (Vbdeab.ofInt x) ⟨1,1⟩ (y - x+1).toNat)] else none:Option Dist)=joined [1] 1 (a7 [mF x y]):=by
  unfold mF
  by_cases c:x≤y∧x.natAbs≤BIG∧y.natAbs≤BIG
  ·rw [if_pos c,if_pos c]
   rfl
  ·rw [if_neg c,if_neg c]
   rfl
 rw [e,e2]
 have z:=oT (a:= [1]) (os:= [mF x y]) rfl
 rw [e9,Ha] at z
 exact z
def IY (n p q:Nat):List Nat:=(List.range (n+1)).map fun i=>Vbdeab.choose n i*p ^ i*(q - p) ^ (n - i)
def FJ (m p q:Nat):List Nat:=(List.range m).map (fun i=>p*(q - p) ^ i*q ^ (m - 1 - i))++ [(q - p) ^ m]
def IZ (t k n:Nat):List Nat:=(List.range (n+1)).map fun i=>Vbdeab.choose k i*Vbdeab.choose (t - k) (n - i)
theorem PM (n p q:Int):checked (build 6 [n,p,q] [])=if (0≤n∧n≤20)∧(1≤q∧q≤100)∧(0≤p∧p≤q) then xh (nats (IY n.toNat p.toNat q.toNat)) (gv 0 (n.toNat+1)) else none:=by
 have e:build 6 [n,p,q] []=if within n 0 20=true∧within q 1 100=true∧within p 0 q=true then
    some (points ((List.range (n.toNat+1)).map fun i=>Vbdeab.choose n.toNat i*p.toNat ^ i*(q - p).toNat ^ (n.toNat - i)) 0) else none:=rfl
 rw [e,eJ,eJ,eJ]
 simp only [fC]
 by_cases c:(0≤n∧n≤20)∧(1≤q∧q≤100)∧(0≤p∧p≤q)
 ·rw [if_pos c,if_pos c]
  have e2:(q - p).toNat=q.toNat - p.toNat:=by omega
  have z:=jF (ws:=IY n.toNat p.toNat q.toNat) (i:=0) (by unfold IY;rw [aD,ft,oj];omega)
  unfold IY at z⊢
  rw [aD,ft] at z
  rw [e2]
  exact z
 ·rw [if_neg c,if_neg c]
  rfl
theorem PN (n p q:Int):checked (build 7 [n,p,q] [])=if (0≤n∧n≤20)∧(1≤q∧q≤100)∧(0≤p∧p≤q) then xh (nats (FJ n.toNat p.toNat q.toNat)) (gv 0 (n.toNat+1)) else none:=by
 have e:build 7 [n,p,q] []=if within n 0 20=true∧within q 1 100=true∧within p 0 q=true then
    some (points ((List.range n.toNat).map (fun i=>p.toNat*(q - p).toNat ^ i*q.toNat ^ (n.toNat - 1 - i))++ [(q - p).toNat ^ n.toNat]) 0) else none:=rfl
 rw [e,eJ,eJ,eJ]
 simp only [fC]
 by_cases c:(0≤n∧n≤20)∧(1≤q∧q≤100)∧(0≤p∧p≤q)
 ·rw [if_pos c,if_pos c]
  have e2:(q - p).toNat=q.toNat - p.toNat:=by omega
  have hl:(FJ n.toNat p.toNat q.toNat).length=n.toNat+1:=by unfold FJ;rw [bZ,aD,ft];rfl
  have z:=jF (ws:=FJ n.toNat p.toNat q.toNat) (i:=0) (by rw [hl,oj];omega)
  rw [hl] at z
  unfold FJ at z⊢
  rw [e2]
  exact z
 ·rw [if_neg c,if_neg c]
  rfl
theorem PQ (t k n:Int):checked (build 8 [t,k,n] [])=if (0≤t∧t≤60)∧(0≤k∧k≤t)∧(0≤n∧n≤t) then xh (nats (IZ t.toNat k.toNat n.toNat)) (gv 0 (n.toNat+1)) else none:=by
 have e:build 8 [t,k,n] []=if within t 0 60=true∧within k 0 t=true∧within n 0 t=true then
    some (points ((List.range (n.toNat+1)).map fun i=>Vbdeab.choose k.toNat i*Vbdeab.choose (t - k).toNat (n.toNat - i)) 0) else none:=rfl
 rw [e,eJ,eJ,eJ]
 simp only [fC]
 by_cases c:(0≤t∧t≤60)∧(0≤k∧k≤t)∧(0≤n∧n≤t)
 ·rw [if_pos c,if_pos c]
  have e2:(t - k).toNat=t.toNat - k.toNat:=by omega
  have z:=jF (ws:=IZ t.toNat k.toNat n.toNat) (i:=0) (by unfold IZ;rw [aD,ft,oj];omega)
  unfold IZ at z⊢
  rw [aD,ft] at z
  rw [e2]
  exact z
 ·rw [if_neg c,if_neg c]
  rfl
theorem PR (n s:Int):checked (build 9 [n,s] [])=if (0≤n∧n≤6)∧(1≤s∧s≤10) then xh (nats (Vbdeab.throws s.toNat n.toNat)) (gv n.toNat (Vbdeab.throws s.toNat n.toNat).length) else none:=by
 have e:build 9 [n,s] []=if within n 0 6=true∧within s 1 10=true then some (points (Vbdeab.throws s.toNat n.toNat) n.toNat) else none:=rfl
 rw [e,eJ,eJ]
 simp only [fC]
 by_cases c:(0≤n∧n≤6)∧(1≤s∧s≤10)
 ·rw [if_pos c,if_pos c]
  obtain⟨m,hm⟩:∃m,s.toNat=m+1:=⟨s.toNat - 1,⋯⟩
  refine jF ?_
  rw [hm,Cb.throws_len,oj]
  have:n.toNat*m≤6*9:=Nat.mul_le_mul ⋯ ⋯
  omega
 ·rw [if_neg c,if_neg c]
  rfl
theorem Kw {kind:Int} (a b:List Int) (h:∀k:Int,0≤k→k≤9→kind≠k):build kind a b=none:=by
 unfold build
 rw [if_neg (h 2 () ()),if_neg (h 3 () ()),if_neg (h 4 () ()),if_neg (h 5 () ())]
 split
 ·rfl
 ·rw [if_neg (h 0 () ()),if_neg (h 1 () ()),if_neg (h 6 () ()),if_neg (h 7 () ()),if_neg (h 8 () ()),if_neg (h 9 () ())]
def MI (kind:Int):Nat:=if kind=0∨kind=1∨kind=9 then 2 else 3
theorem LS {kind:Int} {a:List Int} (h:kind=0∨kind=1∨kind=6∨kind=7∨kind=8∨kind=9) (hl:a.length≠MI kind):build kind a []=none:=by
 rcases h with rfl | rfl | rfl | rfl | rfl | rfl<;>(
  unfold MI at hl
  simp at hl
  match a,hl with
  | [],_=>rfl
  | [_],_=>rfl
  | [_,_],hl=>first | rfl | exact absurd rfl hl
  | [_,_,_],hl=>first | rfl | exact absurd rfl hl
  | _::_::_::_::_,_=>rfl)
theorem HZ (n i:Nat):(Vbdeab.choose n i:Int)*((n:Int) - (i:Int)) /((i:Int)+1)=(Vbdeab.choose n (i+1):Int):=by
 have h:=Cb.choose_step n i
 have e:(Vbdeab.choose n i:Int)*((n:Int) - (i:Int))=(Vbdeab.choose n (i+1):Int)*((i:Int)+1):=by
  have h':(((i+1)*Vbdeab.choose n (i+1)+i*Vbdeab.choose n i:Nat):Int)=((n*Vbdeab.choose n i:Nat):Int):=by rw [h]
  rw [pT,b9,b9,b9,pT] at h'
  grind
 rw [e,Int.mul_ediv_cancel _ ⋯]
theorem Kj (l:List Nat) (i k:Nat):(l.take i).getD k 0=if k<i then l.getD k 0 else 0:=by
 rw [e8,e8,List.getElem?_take]
 split<;>rfl
theorem JT (x:Nat) (i k:Nat):∀s:Nat,((List.range s).map fun j=>if j≤k∧k - j=i then x else 0).sum=if i≤k∧k<i+s then x else 0
 | 0=>by simp;omega
 | s+1=>by
  rw [List.range_succ,dB,List.sum_append,JT x i k s]
  simp only [e9,List.map_nil,AC,List.sum_nil,lW]
  repeat' split
  all_goals omega
theorem JS (f g:Nat→Nat):∀l:List Nat,(l.map fun j=>f j+g j).sum=(l.map f).sum+(l.map g).sum
 | []=>rfl
 | a::r=>by
  rw [e9,e9,e9,AC,AC,AC,JS f g r]
  omega
theorem Hh (l:List Nat) (s i k:Nat) (hi:i<l.length):(Vbdeab.spread (l.take (i+1)) s).getD k 0=(Vbdeab.spread (l.take i) s).getD k 0+if i≤k∧k<i+s then l.getD i 0 else 0:=by
 rw [Cb.spread_get,Cb.spread_get,←JT,←JS]
 congr 1
 refine oa fun j _=>?_
 simp only [Kj]
 by_cases h1:j≤k
 ·rw [if_pos h1,if_pos h1]
  by_cases h2:k - j=i
  ·rw [if_pos ⋯,if_neg ⋯,if_pos ⟨h1,h2⟩,h2,i7]
  ·have h4:¬(j≤k∧k - j=i):=fun z=>h2 z.2
   by_cases h3:k - j<i
   ·rw [if_pos ⋯,if_pos h3,if_neg h4];rfl
   ·rw [if_neg ⋯,if_neg h3,if_neg h4]
 ·have h4:¬(j≤k∧k - j=i):=fun z=>h1 z.1
  rw [if_neg h1,if_neg h1,if_neg h4]
theorem CS (s k:Nat):(Vbdeab.spread [] s).getD k 0=0:=by
 rw [Cb.spread_get]
 have:∀l:List Nat,(l.map fun j=>if j≤k then([]:List Nat).getD (k - j) 0 else 0).sum=0:=fun l=>by
  induction l with
  | nil=>rfl
  | cons a r ih=>rw [e9,AC,ih];simp
 exact this _
theorem Kk {t b:Int} {P:Int} {S:Nat} (hb:0<b) (hd:t∣P) (hS:S=Nat.gcd (P%b).natAbs b.toNat):Nat.gcd t.natAbs S=Nat.gcd t.natAbs b.toNat:=by
 obtain⟨B,rfl⟩:∃B:Nat,b=(B:Int):=⟨b.toNat,⋯⟩
 rw [cV] at hS⊢
 have hS2:S=Nat.gcd P.natAbs B:=by
  rw [hS]
  apply HK
  ·refine yB ?_ (jk _ _)
   have h1:((Nat.gcd (P%(B:Int)).natAbs B:Nat):Int)∣P%(B:Int):=eB _ _
   have h2:((Nat.gcd (P%(B:Int)).natAbs B:Nat):Int)∣(B:Int):=C6.mpr (jk _ _)
   have h3:((Nat.gcd (P%(B:Int)).natAbs B:Nat):Int)∣P:=by
    have e:=Int.emod_add_mul_ediv P (B:Int)
    conv=>rhs;rw [←e]
    exact Int.dvd_add h1 (Jd h2)
   have h4:=Ay.mpr h3
   rwa [kr] at h4
  ·refine yB ?_ (jk _ _)
   have h1:((Nat.gcd P.natAbs B:Nat):Int)∣P:=eB _ _
   have h2:((Nat.gcd P.natAbs B:Nat):Int)∣(B:Int):=C6.mpr (jk _ _)
   have h3:((Nat.gcd P.natAbs B:Nat):Int)∣P%(B:Int):=by
    rw [Int.emod_def]
    exact Int.dvd_sub h1 (Jd h2)
   have h4:=Ay.mpr h3
   rwa [kr] at h4
 rw [hS2]
 have ht:t.natAbs∣P.natAbs:=Ay.mpr hd
 apply HK
 ·exact yB (vV _ _) (Nat.dvd_trans (jk _ _) (jk _ _))
 ·exact yB (vV _ _) (yB (Nat.dvd_trans (vV _ _) ht) (jk _ _))
theorem E4 {n d:Int} (h:0<d):(mkQ n d.toNat).num=n /((Nat.gcd n.natAbs d.toNat:Nat):Int):=rfl
theorem E3 {n d:Int} (h:0<d):(((mkQ n d.toNat).den:Nat):Int)=d /((Nat.gcd n.natAbs d.toNat:Nat):Int):=by
 show((d.toNat /Nat.gcd n.natAbs d.toNat:Nat):Int)=_
 rw [C5,cE (fH h)]
theorem LL {l s:Int} (h:0<s):Nat.gcd s.natAbs (l%s).natAbs=Nat.gcd l.natAbs s.natAbs:=by
 apply HK
 ·refine yB ?_ (vV _ _)
  have h1:((Nat.gcd s.natAbs (l%s).natAbs:Nat):Int)∣s:=eB _ _
  have h2:((Nat.gcd s.natAbs (l%s).natAbs:Nat):Int)∣l%s:=by rw [Nat.gcd_comm];exact eB _ _
  have h3:((Nat.gcd s.natAbs (l%s).natAbs:Nat):Int)∣l:=by
   have e:=Int.emod_add_mul_ediv l s
   conv=>rhs;rw [←e]
   exact Int.dvd_add h2 (Jd h1)
  have h4:=Ay.mpr h3
  rwa [kr] at h4
 ·refine yB (jk _ _) ?_
  have h1:((Nat.gcd l.natAbs s.natAbs:Nat):Int)∣l:=eB _ _
  have h2:((Nat.gcd l.natAbs s.natAbs:Nat):Int)∣s:=by rw [Nat.gcd_comm];exact eB _ _
  have h3:((Nat.gcd l.natAbs s.natAbs:Nat):Int)∣l%s:=by
   rw [Int.emod_def]
   exact Int.dvd_sub h1 (Jd h2)
  have h4:=Ay.mpr h3
  rwa [kr] at h4
theorem Dt {l r:List Nat} (h:l.length=r.length) (e:∀k,k<l.length→l.getD k 0=r.getD k 0):l=r:=by
 refine List.ext_getElem h fun i h1 h2=>?_
 have:=e i h1
 rw [e8,e8,bH h1,bH h2] at this
 exact this
end Kd
end
section
namespace Lt
open Vbdeab (M)
def left:List Nat→List Nat→List Nat
 | [],ws=>ws
 | u::r,ws=>left r (ws.set (chosen ws u) 0)
theorem yM (u:Nat):∀(us ws:List Nat),left (us++ [u]) ws=(left us ws).set (chosen (left us ws) u) 0
 | [],ws=>rfl
 | v::r,ws=>by
  show left (r++ [u]) _=_
  rw [yM u r]
  rfl
theorem Ef (u:Nat):∀(us ws:List Nat),lotsOf (us++ [u]) ws=lotsOf us ws++ [chosen (left us ws) u]
 | [],ws=>rfl
 | v::r,ws=>by
  show chosen ws v::lotsOf (r++ [u]) _=_
  rw [Ef u r]
  rfl
theorem xu:∀(us ws:List Nat),(lotsOf us ws).length=us.length
 | [],_=>rfl
 | u::r,ws=>by
  show(lotsOf r _).length+1=_
  rw [xu r]
  rfl
def pos (ws:List Nat):Nat:=(ws.filter fun w=>decide (0<w)).length
theorem pd (w:Nat) (r:List Nat):pos (w::r)=(if 0<w then 1 else 0)+pos r:=by
 unfold pos
 rw [uJ]
 by_cases h:0<w
 ·rw [if_pos (aE h),if_pos h,d8];omega
 ·rw [if_neg (by simp;omega),if_neg h,i7]
theorem JL:∀{ws:List Nat} {i w:Nat},ws[i]?=some w→0<w→pos (ws.set i 0)+1=pos ws
 | [],i,w,h,_=>by simp at h
 | x::r,0,w,h,hw=>by
  simp at h
  subst h
  rw [List.set_cons_zero,pd,pd,if_neg ⋯,if_pos hw]
  omega
 | x::r,i+1,w,h,hw=>by
  have ih:=JL (ws:=r) (i:=i) (by simpa using h) hw
  rw [List.set_cons_succ,pd,pd]
  omega
theorem JU:∀{ws:List Nat} {i w:Nat},ws[i]?=some w→Vbdeab.sum (ws.set i 0)+w=Vbdeab.sum ws
 | [],i,w,h=>by simp at h
 | x::r,0,w,h=>by
  simp at h
  subst h
  rw [List.set_cons_zero,Ch.sum_cons,Ch.sum_cons]
  omega
 | x::r,i+1,w,h=>by
  have ih:=JU (ws:=r) (i:=i) (w:=w) (by simpa using h)
  rw [List.set_cons_succ,Ch.sum_cons,Ch.sum_cons]
  omega
theorem Ff:∀{ws:List Nat},0<pos ws→0<Vbdeab.sum ws
 | [],h=>by simp [pos] at h
 | w::r,h=>by
  rw [pd] at h
  rw [Ch.sum_cons]
  by_cases q:0<w
  ·omega
  ·rw [if_neg q,i7] at h
   have:=Ff h
   omega
theorem GO:∀{ws:List Nat} {x b:Nat},x<M*(b+Vbdeab.sum ws)→M*b≤x→∃w,ws[place ws x b]?=some w∧0<w
 | [],x,b,h,k=>by
  rw [Ch.sum_nil,lW] at h
  omega
 | w::r,x,b,h,k=>by
  unfold place
  by_cases q:x<M*(b+w)
  ·rw [if_pos q]
   refine⟨w,rfl,?_⟩
   rcases EG w with z | z
   ·rw [z,lW] at q;omega
   ·exact z
  ·rw [if_neg q]
   obtain⟨v,hv,hp⟩:=GO (ws:=r) (x:=x) (b:=b+w) (by rw [Ch.sum_cons] at h;rw [yA];exact h) (Nat.not_lt.mp q)
   refine⟨v,?_,hp⟩
   rw [Nat.add_comm 1,List.getElem?_cons_succ]
   exact hv
theorem Kf {ws:List Nat} {u:Nat} (hu:u<M) (hs:0<Vbdeab.sum ws):∃w,ws[chosen ws u]?=some w∧0<w:=
 GO (b:=0) (by rw [i7];exact Ch.JB hu hs) (by rw [Nat.mul_zero];exact bo _)
structure EH (ws0:List Nat) (i:Nat) (ws:List Nat):Prop where
 len:ws.length=ws0.length
 pos:pos ws+i=pos ws0
 sum:Vbdeab.sum ws≤Vbdeab.sum ws0
theorem EH.start (ws:List Nat):EH ws 0 ws:=⟨rfl,rfl,bq _⟩
theorem EH.step {ws0 ws:List Nat} {i u:Nat} (h:EH ws0 i ws) (hi:i<Lt.pos ws0) (hu:u<M):EH ws0 (i+1) (ws.set (chosen ws u) 0)∧chosen ws u<ws.length:=by
 have hp:=h.pos
 obtain⟨w,hw,hw0⟩:=Kf hu (Ff (ws:=ws) ⋯)
 have h1:=JL hw hw0
 have h2:=JU hw
 have h3:=h.sum
 exact⟨⟨by rw [sJ];exact h.len,⋯,⋯⟩,(cg.mp hw).1⟩
theorem EH.spos {ws0 ws:List Nat} {i:Nat} (h:EH ws0 i ws) (hi:i<Lt.pos ws0):0<Vbdeab.sum ws:=Ff (by have:=h.pos;omega)
end Lt
end
section
namespace L2
open PySem PySem.Spec PyProof.Rows
abbrev yG:=Sum Int Str
def Ed:yG→Value→Bool
 | .inl k,v=>Value.isInt k v
 | .inr x,v=>Value.isStrOf x v
def QK (w:World):yG→Int
 | .inl k=>hashInt k
 | .inr x=>hashStr w x
theorem eV:∀{k:yG} {v:Value},Ed k v=true→(∃i t,k=Sum.inl i∧v=Value.int i t)∨(∃x t,k=Sum.inr x∧v=Value.str x t)
 | .inl i,v,h=>by
  obtain⟨t,e⟩:=Value.isInt_shape (k:=i) (v:=v) h
  exact .inl ⟨i,t,rfl,e⟩
 | .inr x,v,h=>by
  obtain⟨t,e⟩:=Value.isStrOf_shape (x:=x) (v:=v) h
  exact .inr ⟨x,t,rfl,e⟩
theorem Kq (i:Int) (t:Tok):Ed (.inl i) (.int i t)=true:=by simp [Ed,Value.isInt]
theorem Kr (x:Str) (t:Tok):Ed (.inr x) (.str x t)=true:=by simp [Ed,Value.isStrOf]
theorem OF (a b:Int):decide ((Sum.inl a:yG)=Sum.inl b)=(a==b):=by
 by_cases e:a=b
 ·subst e;simp
 ·have h:¬(Sum.inl a:yG)=Sum.inl b:=fun q=>e (Sum.inl.inj q)
  rw [br h]
  exact(beq_eq_false_iff_ne.mpr e).symm
theorem OI (a b:Str):decide ((Sum.inr a:yG)=Sum.inr b)=decide (a=b):=by
 by_cases e:a=b
 ·subst e;simp
 ·have h:¬(Sum.inr a:yG)=Sum.inr b:=fun q=>e (Sum.inr.inj q)
  rw [br h,br e]
theorem OG (a:Int) (b:Str):decide ((Sum.inl a:yG)=Sum.inr b)=false:=br (fun q=>nomatch q)
theorem OH (a:Str) (b:Int):decide ((Sum.inr a:yG)=Sum.inl b)=false:=br (fun q=>nomatch q)
def lY (prog:Program) (w:World):PySem.KeyKind prog w yG where
 is:=Ed
 hash:=QK w
 inj:=fun v a b ha hb=>by
  rcases eV ha with⟨i,t,rfl,rfl⟩ | ⟨x,t,rfl,rfl⟩
  ·rcases eV hb with⟨j,u,rfl,e⟩ | ⟨y,u,rfl,e⟩
   ·injection e with e1 _;rw [e1]
   ·exact nomatch e
  ·rcases eV hb with⟨j,u,rfl,e⟩ | ⟨y,u,rfl,e⟩
   ·exact nomatch e
   ·injection e with e1 _;rw [e1]
 byValue:=fun k v h=>by
  rcases eV h with⟨i,t,rfl,rfl⟩ | ⟨x,t,rfl,rfl⟩<;>rfl
 pyHash:=fun hv h=>by
  rcases eV hv with⟨i,t,rfl,rfl⟩ | ⟨x,t,rfl,rfl⟩
  ·exact wpAny_pyHash_int h
  ·exact wpAny_pyHash_str h
 eqBool:=fun hu hv h=>by
  rcases eV hu with⟨i,t,rfl,rfl⟩ | ⟨x,t,rfl,rfl⟩
  ·rcases eV hv with⟨j,u,rfl,rfl⟩ | ⟨y,u,rfl,rfl⟩
   ·rw [OF] at h;exact wpAny_eqBool_int h
   ·rw [OG] at h;exact SeqAt.EqAt.int_str i t y u _ _ _ _ h
  ·rcases eV hv with⟨j,u,rfl,rfl⟩ | ⟨y,u,rfl,rfl⟩
   ·rw [OH] at h;exact SeqAt.EqAt.str_int x t j u _ _ _ _ h
   ·rw [OI] at h;exact wpAny_eqBool_str h
 «strs»:=fun k x t v h=>by
  rcases eV h with⟨i,u,rfl,e⟩ | ⟨y,u,rfl,e⟩
  ·exact nomatch e
  ·injection e with e1 _
   subst e1
   cases v<;>rfl
theorem Gp (prog:Program) (w:World) (i:Int) (t:Tok):(lY prog w).is (.inl i) (.int i t)=true:=Kq i t
theorem Gq (prog:Program) (w:World) (x:Str) (t:Tok):(lY prog w).is (.inr x) (.str x t)=true:=Kr x t
end L2
namespace L2
open PySem PySem.Spec PyProof.Rows
inductive V where
 | non | bl (b:Bool) | int (i:Int) | str (x:Str) | byt (b:Array UInt8) | flt (b:UInt64) | ref (a:Addr) | ty (n:String)
 deriving DecidableEq
def cZ:V→Value→Prop
 | .non,u=>u=Value.none
 | .bl b,u=>u=Value.bool b
 | .int i,u=>∃t,u=Value.int i t
 | .str x,u=>∃t,u=Value.str x t
 | .byt b,u=>∃t,u=Value.bytes b t
 | .flt b,u=>∃t,u=Value.float b t
 | .ref a,u=>u=Value.ref a
 | .ty n,u=>u=Value.type n
abbrev bO:List V→List Value→Prop:=Paired cZ
theorem bO.length {xs:List V} {us:List Value} (r:bO xs us):xs.length=us.length:=Paired.length r
theorem bO.get:∀{xs:List V} {us:List Value} {i:Nat} {x:V},bO xs us→xs[i]?=some x→∃u,us[i]?=some u∧cZ x u
 | _,_,_,_,.nil,e=>by simp at e
 | _,_,0,_,.cons r _,e=>by simp at e;subst e;exact⟨_,rfl,r⟩
 | _,_,i+1,x,.cons _ t,e=>by
  obtain⟨u,h1,h2⟩:=bO.get (i:=i) (x:=x) t (by simpa using e)
  exact⟨u,by simpa using h1,h2⟩
theorem bO.set {x:V} {u:Value} (r:cZ x u):∀{xs:List V} {us:List Value} (i:Nat),bO xs us→bO (xs.set i x) (us.set i u)
 | _,_,_,.nil=> .nil
 | _,_,0,.cons _ t=> .cons r t
 | _,_,i+1,.cons q t=> .cons q (bO.set r i t)
theorem bO.append:∀{xs ys:List V} {us ws:List Value},bO xs us→bO ys ws→bO (xs++ys) (us++ws)
 | _,_,_,_,.nil,s=>s
 | _,_,_,_,.cons r t,s=> .cons r (bO.append t s)
theorem bO.take:∀{xs:List V} {us:List Value} (n:Nat),bO xs us→bO (xs.take n) (us.take n)
 | _,_,0,_=> .nil
 | _,_,_+1,.nil=> .nil
 | _,_,n+1,.cons r t=> .cons r (bO.take n t)
theorem bO.drop:∀{xs:List V} {us:List Value} (n:Nat),bO xs us→bO (xs.drop n) (us.drop n)
 | _,_,0,r=>r
 | _,_,_+1,.nil=> .nil
 | _,_,n+1,.cons _ t=>bO.drop n t
def vX:Option V→Option Value→Prop
 | some v,some u=>cZ v u
 | none,none=>True
 | _,_=>False
def KV {κ:Type}:List (κ×V)→List (κ×Value)→Prop:=Paired fun(p:κ×V) (q:κ×Value)=>p.1=q.1∧cZ p.2 q.2
def kV:yG→V
 | .inl i=> .int i
 | .inr x=> .str x
inductive HO where
 | lst (xs:List V)
 | tup (xs:List V)
 | dK (kvs:List (yG×V)) | dT (kvs:List (List yG×V))
 | set (S:Int→Bool) (n:Nat)
 | ins (C dx:Addr) (fs:List (Str×V))
 | own (x:Addr)
 | xd (fs:List (Str×V))
 | met (f x:Addr)
 | rng (lo hi:Int)
 | frz (o:Obj) (u:HO)
 | tbl (ps:Array Value)
 | ext (φ:Heap→Prop)
abbrev Hp:=Addr→Option HO
def bT (H:Hp) (a:Addr) (o:HO):Hp:=fun b=>if b=a then some o else H b
theorem af {H:Hp} {a:Addr} {o:HO}:bT H a o a=some o:=by unfold bT;rw [if_pos rfl]
theorem ak {H:Hp} {a b:Addr} {o:HO} (h:b≠a):bT H a o b=H b:=by unfold bT;rw [if_neg h]
theorem bg {H:Hp} {a b:Addr} {o u:HO} (h:H a=some o) (h':H b=some u) (d:o≠u):a≠b:=by
 intro e;subst e;rw [h] at h';exact d (bG h')
theorem aw {H:Hp} {a b:Addr} {o:HO} (h:H a=some o) (h':H b=none):a≠b:=by
 intro e;subst e;rw [h] at h';cases h'
section
variable (P:Program) (w:World)
def iF (H:Hp) (h:Heap) (a:Addr):HO→Prop
 | .lst xs=>xs.length≤sizeLine∧∃(its:List Value) (n:Nat),bO xs its∧h.get? a=some {cls:= .type "list",data:= .seq its.toArray n}
 | .tup xs=>xs.length≤sizeLine∧∃its:List Value,bO xs its∧IsTup h a its.toArray
 | .dK kvs=>kvs.length≤sizeLine∧(a==sysModules)=false∧∃vs,KV kvs vs∧h.DictOf (lY P w) a vs
 | .dT kvs=>kvs.length≤sizeLine∧(a==sysModules)=false∧∃xs:List (List yG×Addr×Value),
   Paired (fun(p:List yG×V) (q:List yG×Addr×Value)=>p.1=q.1∧H q.2.1=some (.tup (p.1.map kV))∧cZ p.2 q.2.2) kvs xs∧
   ∃o es ep,h.get? a=some o∧o.ExactDict∧o.data= .dict es ep∧es.toList=xs.map (entryOfKey (tupleKind (lY P w)))∧(xs.map (·.1)).Nodup
 | .set S n=>h.SetOf (intKind P w) a S n
 | .ins C dx fs=>H dx=some (.own a)∧fs.length≤1000∧dx≠a∧h.get? a=some (PySem.W.instObj C dx)∧
   ∃mA,h.Ns1 dx mA∧(∀f,vX (fs.lookup f) (mA f))∧PySem.Within mA (fs.map (·.1))
 | .own _=>∃o,h.get? a=some o
 | .xd fs=>∃mA,h.Ns1 a mA∧∀f,vX (fs.lookup f) (mA f)
 | .rng lo hi=>∃t u v,h.get? a=some {cls:= .type "range",data:= .fields #[.int lo t,.int hi u,.int 1 v]}
 | .frz o u=>h.get? a=some o∧iF H h a u
 | .tbl ps=>h.get? a=some {cls:= .none,data:= .fields ps}
 | .met f x=>h.get? a=some (PySem.W.methodObj (.ref f) (.ref x))
 | .ext φ=>φ h∧(∃o,h.get? a=some o)∧∀h1 h2:Heap,φ h1→(∀o,h1.get? a=some o→h2.get? a=some o)→φ h2
def vW (H:Hp) (h:Heap):Prop:=∀a o,H a=some o→iF P w H h a o
end
section
variable {P:Program} {w:World} {H H':Hp} {h h':Heap} {a:Addr} {o:HO}
theorem iF.lt (x:iF P w H h a o):a<h.objs.size:=by
 cases o with
 | lst xs=>obtain⟨_,_,_,_,e⟩:=x;exact fo e
 | tup xs=>obtain⟨_,_,_,p⟩:=x;exact p.lt
 | dK kvs=>obtain⟨_,_,_,_,o,_,_,e,_⟩:=x;exact fo e
 | dT kvs=>obtain⟨_,_,_,_,o,_,_,e,_⟩:=x;exact fo e
 | set S n=>obtain⟨o,_,_,_,e,_⟩:=x;exact fo e
 | ins C dx fs=>obtain⟨_,_,_,e,_⟩:=x;exact fo e
 | own y=>obtain⟨_,e⟩:=x;exact fo e
 | xd fs=>obtain⟨_,⟨_,_,_,e,_⟩,_⟩:=x;exact fo e
 | rng lo hi=>obtain⟨_,_,_,e⟩:=x;exact fo e
 | frz ob u=>obtain⟨e,_⟩:=x;exact fo e
 | tbl ps=>exact fo (show h.get? a=some _ from x)
 | met f y=>exact fo (show h.get? a=some _ from x)
 | ext φ=>obtain⟨_,⟨_,e⟩,_⟩:=x;exact fo e
theorem Paired.mapP {α β:Type} {F G:α→β→Prop}:∀{l₁:List α} {l₂:List β},Paired F l₁ l₂→(∀a b,F a b→G a b)→Paired G l₁ l₂
 | _,_,.nil,_=> .nil
 | _,_,.cons r t,f=> .cons (f _ _ r) (Paired.mapP t f)
theorem iF.stay (x:iF P w H h a o) (k:∀b u,(b=a∨H b=some (.own a))→h.get? b=some u→h'.get? b=some u)
  (ho:∀b,H b=some (.own a)→H' b=some (.own a)) (ht:∀b xs,H b=some (.tup xs)→H' b=some (.tup xs)):iF P w H' h' a o:=by
 induction o with
 | lst xs=>obtain⟨z,its,n,r,e⟩:=x;exact⟨z,its,n,r,k _ _ (.inl rfl) e⟩
 | tup xs=>obtain⟨z,its,r,ob,e,c⟩:=x;exact⟨z,its,r,ob,k _ _ (.inl rfl) e,c⟩
 | dK kvs=>obtain⟨z,y,vs,r,ob,es,ep,e,c⟩:=x;exact⟨z,y,vs,r,ob,es,ep,k _ _ (.inl rfl) e,c⟩
 | dT kvs=>
  obtain⟨z,y,xs,r,ob,es,ep,e,c⟩:=x
  exact⟨z,y,xs,Paired.mapP r fun p q z=>⟨z.1,ht _ _ z.2.1,z.2.2⟩,ob,es,ep,k _ _ (.inl rfl) e,c⟩
 | set S n=>obtain⟨ob,es,ep,t,e,c⟩:=x;exact⟨ob,es,ep,t,k _ _ (.inl rfl) e,c⟩
 | ins C dx fs=>
  obtain⟨d,z,ne,e,mA,⟨od,es,ep,e2,c⟩,r⟩:=x
  exact⟨ho _ d,z,ne,k _ _ (.inl rfl) e,mA,⟨od,es,ep,k _ _ (.inr d) e2,c⟩,r⟩
 | own y=>obtain⟨ob,e⟩:=x;exact⟨ob,k _ _ (.inl rfl) e⟩
 | xd fs=>obtain⟨mA,⟨od,es,ep,e,c⟩,r⟩:=x;exact⟨mA,⟨od,es,ep,k _ _ (.inl rfl) e,c⟩,r⟩
 | rng lo hi=>obtain⟨t,u,v,e⟩:=x;exact⟨t,u,v,k _ _ (.inl rfl) e⟩
 | frz ob u ih=>obtain⟨e,q⟩:=x;exact⟨k _ _ (.inl rfl) e,ih q⟩
 | tbl ps=>
  have e:h.get? a=some {cls:= .none,data:= .fields ps}:=x
  show h'.get? a=some {cls:= .none,data:= .fields ps}
  exact k a _ (.inl rfl) e
 | met f y=>
  have e:h.get? a=some (PySem.W.methodObj (.ref f) (.ref y)):=x
  show h'.get? a=some (PySem.W.methodObj (.ref f) (.ref y))
  exact k a _ (.inl rfl) e
 | ext φ=>obtain⟨p,⟨o,e⟩,st⟩:=x;exact⟨st _ _ p fun o q=>k _ _ (.inl rfl) q,⟨o,k _ _ (.inl rfl) e⟩,st⟩
theorem vW.lt (x:vW P w H h) (e:H a=some o):a<h.objs.size:=(x a o e).lt
theorem vW.fresh (x:vW P w H h) (e:h.objs.size≤a):H a=none:=by
 cases q:H a with
 | none=>rfl
 | some u=>exact absurd (gR (x.lt q) e) (sM _)
theorem vW.kept (x:vW P w H h) (k:∀b u,h.get? b=some u→h'.get? b=some u):vW P w H h':=fun a o e=>
 (x a o e).stay (fun b u _ q=>k b u q) (fun _ q=>q) fun _ _ q=>q
theorem vW.laid (x:vW P w H h) (k:∀b u,h.get? b=some u→h'.get? b=some u) (hp:h.objs.size≤a) (new:iF P w (bT H a o) h' a o):vW P w (bT H a o) h':=fun b u e=>by
 have hn:=x.fresh hp
 by_cases hb:b=a
 ·subst hb;rw [af] at e;cases e;exact new
 ·rw [ak hb] at e
  exact(x b u e).stay (fun c v _ q=>k c v q) (fun c q=>by rw [ak (aw q hn)];exact q) fun c xs q=>by rw [ak (aw q hn)];exact q
end
def Rd (H:Hp) (a:Addr) (u:HO):Prop:=H a=some u∨∃o,H a=some (.frz o u)
theorem Rd.ok {P:Program} {w:World} {H:Hp} {h:Heap} {a:Addr} {u:HO} (r:Rd H a u) (x:vW P w H h):iF P w H h a u:=by
 rcases r with r | ⟨o,r⟩
 ·exact x a u r
 ·obtain⟨_,q⟩:=x a _ r
  exact q
def Qp:Option HO→Prop
 | some (.lst _)=>True
 | some (.dK _)=>True
 | some (.dT _)=>True
 | some (.set _ _)=>True
 | some (.ins _ _ _)=>True
 | some (.ext _)=>True
 | _=>False
section
variable {P:Program} {w:World} {H:Hp} {h h':Heap} {x e:Addr} {o':HO}
theorem vW.write (ok:vW P w H h) (mu:Qp (H x)) (he:e=x∨H e=some (.own x)) (k:∀b u,b≠e→h.get? b=some u→h'.get? b=some u) (heo:∃u,h'.get? e=some u)
  (new:iF P w (bT H x o') h' x o'):vW P w (bT H x o') h':=fun b u q=>by
 have nown:∀c y,H c=some (.own y)→c≠x:=fun c y r z=>by subst z;rw [r] at mu;exact mu
 have ntup:∀c xs,H c=some (.tup xs)→c≠x:=fun c xs r z=>by subst z;rw [r] at mu;exact mu
 by_cases hb:b=x
 ·subst hb;rw [af] at q;cases q;exact new
 ·rw [ak hb] at q
  by_cases hbe:b=e
  ·have q':H b=some (.own x):=by
    rcases he with z | z
    ·exact absurd (hbe.trans z) hb
    ·rw [hbe];exact z
   rw [q] at q';cases q'
   obtain⟨v,hv⟩:=heo
   exact⟨v,by rw [hbe];exact hv⟩
  ·refine(ok b u q).stay (fun c v hc r=>k c v ?_ r) (fun c r=>by rw [ak (nown c b r)];exact r) fun c xs r=>by rw [ak (ntup c xs r)];exact r
   rcases hc with rfl | hc
   ·exact hbe
   ·rintro rfl
    rcases he with z | z
    ·exact nown c b hc z
    ·rw [hc] at z;cases z;exact hb rfl
end
structure Un (fs ex:List Addr) (H H':Hp) (h h':Heap):Prop where
 keep:∀b o,h.get? b=some o→H b=none→b ∉ fs→b ∉ ex→h'.get? b=some o
 slot:∀b o,h.get? b=some o→H b=none→b∈fs→b ∉ ex→∃sl,h'.get? b=some {o with slots:=sl}
 free:∀b o,h.get? b=some o→H b=none→b ∉ ex→H' b=none
 there:∀b o,h.get? b=some o→b ∉ ex→∃o',h'.get? b=some o'
 tups:∀b xs,H b=some (.tup xs)→H' b=some (.tup xs)
 frzs:∀b o u,H b=some (.frz o u)→H' b=some (.frz o u)
 tbls:∀b ps,H b=some (.tbl ps)→∃more,H' b=some (.tbl (ps++more))
section
variable {fs fs' ex ex':List Addr} {H H1 H2:Hp} {h h1 h2 h':Heap} {a x e:Addr} {o:HO}
theorem Un.any (u:Un fs ex H H1 h h1) {b:Addr} {ob:Obj} (q:h.get? b=some ob) (n:H b=none) (hx:b ∉ ex):∃sl,h1.get? b=some {ob with slots:=sl}:=by
 by_cases hb:b∈fs
 ·exact u.slot b ob q n hb hx
 ·exact⟨ob.slots,u.keep b ob q n hb hx⟩
theorem Un.kept (k:∀b u,h.get? b=some u→h'.get? b=some u):Un fs ex H H h h':=
 ⟨fun b ob q _ _ _=>k b ob q,fun b ob q _ _ _=>⟨ob.slots,k b ob q⟩,fun _ _ _ n _=>n,fun b ob q _=>⟨ob,k b ob q⟩,fun _ _ q=>q,fun _ _ _ q=>q,fun _ ps q=>⟨#[],by rw [q];simp⟩⟩
theorem Un.refl:Un fs ex H H h h:=Un.kept fun _ _ q=>q
theorem Un.laid (k:∀b u,h.get? b=some u→h'.get? b=some u) (hp:h.objs.size≤a) (hn:H a=none):Un fs ex H (bT H a o) h h' where
 keep:=fun b u q _ _ _=>k b u q
 slot:=fun b u q _ _ _=>⟨u.slots,k b u q⟩
 free:=fun b u q n _=>by rw [ak (fm (gR (fo q) hp))];exact n
 there:=fun b u q _=>⟨u,k b u q⟩
 tups:=fun b xs q=>by rw [ak (aw q hn)];exact q
 frzs:=fun b u xs q=>by rw [ak (aw q hn)];exact q
 tbls:=fun b ps q=>⟨#[],by rw [ak (aw q hn),q];simp⟩
theorem Un.write (mu:Qp (H x)) (he:e=x∨H e=some (.own x)) (k:∀b u,b≠e→h.get? b=some u→h'.get? b=some u) (heo:∃u,h'.get? e=some u):Un fs ex H (bT H x o) h h':=by
 have hx:∀b,H b=none→b≠x:=fun b n z=>by subst z;rw [n] at mu;exact mu
 have hb:∀b,H b=none→b≠e:=fun b n z=>by
  subst z
  rcases he with r | r
  ·exact hx b n r
  ·rw [n] at r;cases r
 have hm:∀b u,H b=some u→¬Qp (some u)→b≠x:=fun b u q nm z=>by subst z;rw [q] at mu;exact nm mu
 refine⟨fun b u q n _ _=>k b u (hb b n) q,fun b u q n _ _=>⟨u.slots,k b u (hb b n) q⟩,fun b u q n _=>by rw [ak (hx b n)];exact n,fun b u q _=>?_,
  fun b xs q=>by rw [ak (hm b _ q fun z=>z)];exact q,fun b u xs q=>by rw [ak (hm b _ q fun z=>z)];exact q,fun b ps q=>⟨#[],by rw [ak (hm b _ q fun z=>z),q];simp⟩⟩
 by_cases hbe:b=e
 ·subst hbe;exact heo
 ·exact⟨u,k b u hbe q⟩
end
def Qu (h:Heap) (H:Hp):List Addr:=(List.range h.objs.size).filter fun a=>(H a).isSome
def EV (h:Heap) (H:Hp):Heap:=PySem.W.hideAll h (Qu h H)
theorem Km (h:Heap) (H:Hp):(EV h H).objs.size=h.objs.size:=PySem.W.hideAll_size _ _
theorem LO {h:Heap} {H:Hp} {b:Addr} {o:Obj} (e:h.get? b=some o) (n:H b=none):(EV h H).get? b=some o:=
 PySem.W.hideAll_get _ e fun hm=>by
  have q:(H b).isSome=true:=(Dc.mp hm).2
  rw [n] at q;simp at q
theorem Ny {h:Heap} {H:Hp} {b:Addr} {o:Obj} (e:(EV h H).get? b=some o):h.get? b=some o∧H b=none:=by
 have e':h.get? b=some o:=PySem.W.of_hideAll (Qu h H) e
 refine⟨e',?_⟩
 cases q:H b with
 | none=>rfl
 | some x=>
  have hm:b∈Qu h H:=Dc.mpr ⟨List.mem_range.mpr (fo e'),by simp [q]⟩
  have z:(EV h H).get? b=none:=PySem.W.hideAll_none (Qu h H) hm
  rw [z] at e;cases e
end L2
namespace L2
open PySem PySem.Spec PyProof.Rows
structure Mod (K:PySem.W.Frag) (mg:Str→Option Value) (base:Heap):Prop where
 kin:K.In base
 glob:base.Ns mainGlobals mg
 blt:∃mb,base.Ns builtinsNs mb∧∀x:Str,x≠"__name__"→mb x=bootBuiltins x
 nolimit:base.NoLimit
structure Cx where
 prog:Program
 w:World
 K:PySem.W.Frag
 mg:Str→Option Value
 base:Heap
 A:Around
 N:List Str
 s_0:Shared
 H_0:Hp
 env:Env
 outer:List Env
 stack:List Env
 ex:List Addr
 fn:Str→Bool
 calm:Bool
 pn:List (Addr×Obj)
 xe:Value→Shared→Prop
def LJ (l:List Env):List Addr:=l.filterMap (·.frame)
abbrev Cx.fs (X:Cx):List Addr:=LJ X.outer
def Oq (sc:Scope) (x:Str):Prop:=sc.names.lookup x=some .local∨sc.names.lookup x=some .cell∨sc.names.lookup x=some .free
def On (sc:Scope) (x:Str):Prop:=sc.names.lookup x=some .local∨sc.names.lookup x=some .cell
def Qw (env:Env) (h:Heap) (m:Str→Option Value) (x:Str) (u:Value):Prop:=
 (env.kindOf x=some .local∧m x=some u)∨((env.kindOf x=some .cell∨env.kindOf x=some .free)∧∃c,env.cells.lookup x=some c∧h.IsCell c (some u))
structure Cx.Ok (X:Cx):Prop where
 mod:Mod X.K X.mg X.base
 kind:X.env.scope.kind= .function
 glob:X.env.globals=mainGlobals
 blt:X.env.builtins=builtinsNs
 above:X.s_0.heap.objs.size≤X.env.locals
 inj:∀x y c,X.env.cells.lookup x=some c→X.env.cells.lookup y=some c→x=y
 has:∀x,(X.env.kindOf x=some .cell∨X.env.kindOf x=some .free)→∃c,X.env.cells.lookup x=some c
 cab:∀x c,X.fn x=true→X.env.cells.lookup x=some c→X.s_0.heap.objs.size≤c
 hd:X.calm=true→X.A.handled=none
 frames:X.A.frames=some X.stack
 stk:X.stack=X.outer∨(X.stack=X.env::X.outer∧X.env.frame=some X.env.locals)
 exf:∀b∈X.ex,b≠X.env.locals∧∀x c,X.env.cells.lookup x=some c→c≠b
 bs:∀b o,X.base.get? b=some o→X.s_0.heap.get? b=some o∧X.H_0 b=none
 bsz:X.base.objs.size≤X.s_0.heap.objs.size
 noex:∀b o,X.base.get? b=some o→b ∉ X.ex
 exfs:∀b∈X.ex,b ∉ X.fs
 funs:X.s_0.heap.FunFrames X.base X.outer
 frf:∀b∈X.fs,X.H_0 b=none
structure be (X:Cx) (pins:List (Addr×Obj)) (σ:List (Option V)) (H:Hp) (s:Shared):Prop where
 ok:X.Ok
 os:s.os=X.s_0.os
 bare:AllBare s.gens
 base:Un X.fs X.ex X.H_0 H X.s_0.heap s.heap
 loc:∃m,s.heap.Ns X.env.locals m∧∀(i:Nat) (x:Str) (v:V),X.N[i]?=some x→σ[i]?=some (some v)→Oq X.env.scope x→∃u,cZ v u∧Qw X.env s.heap m x u
 cell:∀x c,X.env.cells.lookup x=some c→∃v,s.heap.IsCell c v
 free:H X.env.locals=none
 freeC:∀x c,X.env.cells.lookup x=some c→H c=none
 pin:∀p∈X.pn++pins,s.heap.get? p.1=some p.2∧H p.1=none∧p.1≠X.env.locals∧p.1 ∉ X.fs∧∀v,p.2.data≠ .cell v
 hok:vW X.prog X.w H s.heap
 len:σ.length=X.N.length
section
variable {X:Cx} {pins:List (Addr×Obj)} {σ:List (Option V)} {H H':Hp} {s:Shared} {h':Heap}
theorem Cx.Ok.nofr (ok:X.Ok) {b:Addr} {o:Obj} (e:X.base.get? b=some o):b ∉ X.fs:=fun hb=>by
 have:=(ok.funs.mem hb).1
 rw [e] at this;cases this
theorem be.bs (I:be X pins σ H s):∀b o,X.base.get? b=some o→s.heap.get? b=some o∧H b=none:=fun b o e=>
 ⟨I.base.keep b o (I.ok.bs b o e).1 (I.ok.bs b o e).2 (I.ok.nofr e) (I.ok.noex b o e),I.base.free b o (I.ok.bs b o e).1 (I.ok.bs b o e).2 (I.ok.noex b o e)⟩
theorem be.bk (I:be X pins σ H s):∀b o,X.base.get? b=some o→s.heap.get? b=some o:=fun b o e=>(I.bs b o e).1
theorem be.mod (I:be X pins σ H s):Mod X.K X.mg X.base:=I.ok.mod
theorem be.kIn (I:be X pins σ H s):X.K.In s.heap:=I.ok.mod.kin.keeps I.bk
theorem be.nolimit (I:be X pins σ H s):s.heap.NoLimit:=I.ok.mod.nolimit.keeps I.bk
theorem be.fr (I:be X pins σ H s):∃m,Fr X.base X.env.locals s.heap m:=
 let ⟨m,hn,_⟩:=I.loc
 ⟨m,hn,I.bk,fS I.ok.bsz I.ok.above⟩
theorem be.lt (I:be X pins σ H s):X.env.locals<s.heap.objs.size:=let ⟨_,hn,_⟩:=I.loc;hn.lt
theorem be.sz (I:be X pins σ H s):X.s_0.heap.objs.size≤s.heap.objs.size:=fS I.ok.above (Nat.le_of_lt I.lt)
theorem be.nofs (I:be X pins σ H s) {a:Addr} (h:s.heap.objs.size≤a):a ∉ X.fs:=fun hb=>by
 obtain⟨_,o,ho,_⟩:=I.ok.funs.mem hb
 exact absurd (gR (fo ho) (fS I.sz h)) (sM _)
theorem be.cne (I:be X pins σ H s):∀x c,X.env.cells.lookup x=some c→c≠X.env.locals:=fun x c e z=>by
 obtain⟨v,o,ho,hd⟩:=I.cell x c e
 obtain⟨m,⟨o',es,ep,ho',hd',_⟩,_⟩:=I.loc
 rw [z,ho'] at ho;cases ho;rw [hd'] at hd;cases hd
theorem be.funs (I:be X pins σ H s):s.heap.FunFrames X.base X.outer:=by
 have all:∀(l:List Env),(∀b∈LJ l,b∈X.fs)→X.s_0.heap.FunFrames X.base l→s.heap.FunFrames X.base l:=by
  intro l
  induction l with
  | nil=>intro _ _;trivial
  | cons env r ih=>
   intro hs hl
   obtain⟨hk,⟨L,o,hf,hn,ho,hd⟩,hr⟩:=hl
   have hL:L∈X.fs:=hs L (by unfold LJ;rw [List.filterMap_cons,hf];exact fD)
   obtain⟨sl,e⟩:=I.base.slot L o ho (I.ok.frf L hL) hL fun z=>I.ok.exfs L z hL
   exact⟨hk,⟨L,_,hf,hn,e,hd⟩,ih (fun b hb=>hs b (by unfold LJ;rw [List.filterMap_cons,hf];exact dX _ hb)) hr⟩
 exact all X.outer (fun _ hb=>hb) I.ok.funs
theorem be.stack (I:be X pins σ H s):s.heap.FunFrames X.base X.stack:=by
 rcases I.ok.stk with e | ⟨e,hf⟩
 ·rw [e];exact I.funs
 ·rw [e]
  obtain⟨m,hn,_⟩:=I.loc
  refine .cons (by rw [I.ok.kind];decide) hf hn ?_ I.funs
  exact Heap.get?_none_of_le (fS I.ok.bsz I.ok.above)
theorem be.stkSub (I:be X pins σ H s):∀b∈LJ X.stack,b∈X.env.locals::X.fs:=fun b hb=>by
 rcases I.ok.stk with e | ⟨e,hf⟩
 ·rw [e] at hb;exact dX _ hb
 ·rw [e] at hb
  unfold LJ at hb
  rw [List.filterMap_cons,hf] at hb
  exact hb
theorem be.stkFree (I:be X pins σ H s):∀b∈LJ X.stack,H b=none:=fun b hb=>by
 rcases cH.mp (I.stkSub b hb) with e | hb
 ·rw [e];exact I.free
 ·obtain⟨_,o,ho,_⟩:=I.ok.funs.mem hb
  exact I.base.free b o ho (I.ok.frf b hb) fun z=>I.ok.exfs b z hb
theorem be.step {g':Array GenState} {t':Nat} {d':Drawn} {ch:List Addr} (I:be X pins σ H s)
  (hch:∀b∈ch,(b∈X.ex∨X.s_0.heap.objs.size≤b)∧b≠X.env.locals∧(∀x c,X.env.cells.lookup x=some c→c≠b)∧∀p∈X.pn++pins,p.1≠b)
  (keep:∀b o,b≠X.env.locals→b ∉ X.fs→b ∉ ch→s.heap.get? b=some o→H b=none→h'.get? b=some o)
  (slot:∀b o,b≠X.env.locals→b∈X.fs→b ∉ ch→s.heap.get? b=some o→H b=none→∃sl,h'.get? b=some {o with slots:=sl}) (free:∀b o,b ∉ ch→s.heap.get? b=some o→H b=none→H' b=none)
  (there:∀b o,b ∉ ch→s.heap.get? b=some o→∃o',h'.get? b=some o')
  (tups:∀b xs,H b=some (.tup xs)→H' b=some (.tup xs)) (frzs:∀b o u,H b=some (.frz o u)→H' b=some (.frz o u)) (tbls:∀b ps,H b=some (.tbl ps)→∃more,H' b=some (.tbl (ps++more)))
  (ns:∀m,s.heap.Ns X.env.locals m→h'.Ns X.env.locals m) (hok:vW X.prog X.w H' h') (hg:AllBare g'):
  be X pins σ H' {s with heap:=h',gens:=g',drawn:=d',toks:=t'}:=by
 have neL:∀b o,X.s_0.heap.get? b=some o→b≠X.env.locals:=fun b o e=>fm (gR (fo e) I.ok.above)
 have neC:∀b o,X.s_0.heap.get? b=some o→b ∉ X.ex→b ∉ ch:=fun b o e hx hb=>by
  rcases (hch b hb).1 with z | z
  ·exact hx z
  ·exact absurd (gR (fo e) z) (sM _)
 have cellK:∀x c,X.env.cells.lookup x=some c→∀v,s.heap.IsCell c v→h'.IsCell c v:=fun x c e v ⟨o,ho,hd⟩=>by
  have nch:c ∉ ch:=fun z=>(hch c z).2.2.1 x c e rfl
  by_cases hc:c∈X.fs
  ·obtain⟨sl,q⟩:=slot c o (I.cne x c e) hc nch ho (I.freeC x c e)
   exact⟨_,q,hd⟩
  ·exact⟨o,keep c o (I.cne x c e) hc nch ho (I.freeC x c e),hd⟩
 refine⟨I.ok,I.os,hg,⟨fun b o e n hb hx=>?_,fun b o e n hb hx=>?_,fun b o e n hx=>?_,fun b o e hx=>?_,fun b xs e=>tups b xs (I.base.tups b xs e),fun b o xs e=>frzs b o xs (I.base.frzs b o xs e),fun b ps e=>?_⟩,?_,fun x c e=>?_,?_,fun x c e=>?_,fun p hp=>?_,hok,I.len⟩
 ·exact keep b o (neL b o e) hb (neC b o e hx) (I.base.keep b o e n hb hx) (I.base.free b o e n hx)
 ·obtain⟨sl,e1⟩:=I.base.slot b o e n hb hx
  obtain⟨sl',e2⟩:=slot b _ (neL b o e) hb (neC b o e hx) e1 (I.base.free b o e n hx)
  exact⟨sl',e2⟩
 ·obtain⟨o',e1⟩:=I.base.there b o e hx
  exact free b o' (neC b o e hx) e1 (I.base.free b o e n hx)
 ·obtain⟨o',e1⟩:=I.base.there b o e hx
  exact there b o' (neC b o e hx) e1
 ·obtain⟨m1,e1⟩:=I.base.tbls b ps e
  obtain⟨m2,e2⟩:=tbls b _ e1
  exact⟨m1++m2,by rw [e2,Array.append_assoc]⟩
 ·obtain⟨m,hn,hl⟩:=I.loc
  refine⟨m,ns m hn,fun i x v e1 e2 e3=>?_⟩
  obtain⟨u,r,l⟩:=hl i x v e1 e2 e3
  refine⟨u,r,?_⟩
  rcases l with l | ⟨k,c,e,z⟩
  ·exact .inl l
  ·exact .inr ⟨k,c,e,cellK x c e _ z⟩
 ·obtain⟨v,z⟩:=I.cell x c e
  exact⟨v,cellK x c e v z⟩
 ·obtain⟨m,⟨o,_,_,ho,_⟩,_⟩:=I.loc
  exact free _ o (fun z=>(hch _ z).2.1 rfl) ho I.free
 ·obtain⟨v,o,ho,hd⟩:=I.cell x c e
  exact free c o (fun z=>(hch c z).2.2.1 x c e rfl) ho (I.freeC x c e)
 ·obtain⟨e,n,ne,nf,d⟩:=I.pin p hp
  have nch:p.1 ∉ ch:=fun z=>(hch p.1 z).2.2.2 p hp rfl
  exact⟨keep p.1 p.2 ne nf nch e n,free p.1 p.2 nch e n,ne,nf,d⟩
theorem be.un {t':Nat} (I:be X pins σ H s) (u:Un X.fs [] H H' s.heap h') (hok:vW X.prog X.w H' h'):be X pins σ H' {s with heap:=h',toks:=t'}:=by
 obtain⟨m,⟨o,es,ep,ho,r⟩,_⟩:=id I.loc
 obtain⟨sl,hL⟩:=u.any ho I.free (by simp)
 exact I.step (g':=s.gens) (d':=s.drawn) (ch:= []) (fun _ z=>nomatch z) (fun b o _ hb _ e n=>u.keep b o e n hb (by simp)) (fun b o _ hb _ e n=>u.slot b o e n hb (by simp)) (fun b o _ e n=>u.free b o e n (by simp)) (fun b o _ e=>u.there b o e (by simp)) u.tups u.frzs u.tbls (fun m' hm=>by
  obtain⟨o',es',ep',ho',r'⟩:=hm
  rw [ho] at ho';cases ho'
  exact⟨_,es',ep',hL,r'⟩) hok I.bare
theorem be.call {g':Array GenState} {t':Nat} {d':Drawn} {ch:List Addr} (I:be X pins σ H s) (u:Un (LJ X.stack) ch H H' s.heap h') (hok:vW X.prog X.w H' h') (hg:AllBare g')
  (hch:∀b∈ch,(b∈X.ex∨X.s_0.heap.objs.size≤b)∧b≠X.env.locals∧(∀x c,X.env.cells.lookup x=some c→c≠b)∧∀p∈X.pn++pins,p.1≠b):
  be X pins σ H' {s with heap:=h',gens:=g',drawn:=d',toks:=t'}:=by
 obtain⟨m,⟨o,es,ep,ho,r⟩,_⟩:=id I.loc
 obtain⟨sl,hL⟩:=u.any ho I.free fun z=>(hch _ z).2.1 rfl
 exact I.step (ch:=ch) hch (fun b o hL hb hc e n=>u.keep b o e n (fun z=>(cH.mp (I.stkSub b z)).elim hL hb) hc) (fun b o _ _ hc e n=>u.any e n hc) (fun b o hc e n=>u.free b o e n hc) (fun b o hc e=>u.there b o e hc) u.tups u.frzs u.tbls (fun m' hm=>by
  obtain⟨o',es',ep',ho',r'⟩:=hm
  rw [ho] at ho';cases ho'
  exact⟨_,es',ep',hL,r'⟩) hok hg
theorem be.turned {t':Nat} {it:Addr} (I:be X pins σ H s) (k:∀b o,b≠it→s.heap.get? b=some o→h'.get? b=some o) (hn:H it=none) (hL:it≠X.env.locals)
  (h1:it∈X.ex∨X.s_0.heap.objs.size≤it) (h2:∀x c,X.env.cells.lookup x=some c→c≠it) (h3:∀p∈X.pn++pins,p.1≠it):be X pins σ H {s with heap:=h',toks:=t'}:=by
 have nit:∀b u,H b=some u→b≠it:=fun b u e z=>by rw [z,hn] at e;cases e
 refine I.step (g':=s.gens) (d':=s.drawn) (ch:= [it]) (fun b hb=>?_) (fun b o _ _ hc e _=>k b o (fun z=>hc (by simp [z])) e) (fun b o _ _ hc e _=>⟨o.slots,k b o (fun z=>hc (by simp [z])) e⟩) (fun _ _ _ _ n=>n)
  (fun b o hc e=>⟨o,k b o (fun z=>hc (by simp [z])) e⟩) (fun _ _ e=>e) (fun _ _ _ e=>e) (fun b ps e=>⟨#[],by rw [e];simp⟩) (fun m hm=>?_) (fun b u e=>?_) I.bare
 ·have e:b=it:=by simpa using hb
  subst e
  exact⟨h1,hL,h2,h3⟩
 ·obtain⟨o,es,ep,ho,r⟩:=hm
  exact⟨o,es,ep,k _ o (Ne.symm hL) ho,r⟩
 ·refine(I.hok b u e).stay (fun c v hc q=>k c v ?_ q) (fun _ q=>q) fun _ _ q=>q
  rcases hc with z | z
  ·rw [z];exact nit b u e
  ·exact nit c _ z
theorem be.tok (I:be X pins σ H s) (t:Nat):be X pins σ H {s with toks:=t}:=I.un (h':=s.heap) (t':=t) Un.refl I.hok
theorem be.kept {t':Nat} (I:be X pins σ H s) (k:∀b u,s.heap.get? b=some u→h'.get? b=some u):be X pins σ H {s with heap:=h',toks:=t'}:=I.un (Un.kept k) (I.hok.kept k)
theorem be.laid {a:Addr} {o:HO} {t':Nat} (I:be X pins σ H s) (k:∀b u,s.heap.get? b=some u→h'.get? b=some u) (hp:s.heap.objs.size≤a) (new:iF X.prog X.w (bT H a o) h' a o):
  be X pins σ (bT H a o) {s with heap:=h',toks:=t'}:=I.un (Un.laid k hp (I.hok.fresh hp)) (I.hok.laid k hp new)
theorem be.write {x e:Addr} {o:HO} {t':Nat} (I:be X pins σ H s) (mu:Qp (H x)) (he:e=x∨H e=some (.own x)) (k:∀b u,b≠e→s.heap.get? b=some u→h'.get? b=some u) (heo:∃u,h'.get? e=some u)
  (new:iF X.prog X.w (bT H x o) h' x o):be X pins σ (bT H x o) {s with heap:=h',toks:=t'}:=I.un (Un.write mu he k heo) (I.hok.write mu he k heo new)
theorem be.weak {σ':List (Option V)} (I:be X pins σ H s) (hl:σ'.length=σ.length) (w:∀(i:Nat) v,σ'[i]?=some (some v)→σ[i]?=some (some v)):be X pins σ' H s:=
 ⟨I.ok,I.os,I.bare,I.base,let ⟨m,hn,hl'⟩:=I.loc;⟨m,hn,fun i x v e1 e2 e3=>hl' i x v e1 (w i v e2) e3⟩,I.cell,I.free,I.freeC,I.pin,I.hok,hl.trans I.len⟩
theorem be.pins_of {pins':List (Addr×Obj)} (I:be X pins σ H s) (h:∀p∈pins',s.heap.get? p.1=some p.2∧H p.1=none∧p.1≠X.env.locals∧p.1 ∉ X.fs∧∀v,p.2.data≠ .cell v):be X pins' σ H s:=
 ⟨I.ok,I.os,I.bare,I.base,I.loc,I.cell,I.free,I.freeC,fun p hp=>(jT.mp hp).elim (fun z=>I.pin p (Db _ z)) (h p),I.hok,I.len⟩
theorem BS {N:List Str} (hN:N.Nodup) {i j:Nat} {x:Str} (a:N[i]?=some x) (b:N[j]?=some x):i=j:=by
 obtain⟨h1,e1⟩:=cg.mp a
 obtain⟨h2,e2⟩:=cg.mp b
 exact(List.getElem_inj hN).mp (e1.trans e2.symm)
theorem EB {M:Model} {A:Around} {E:Value→Shared→Prop} {i:Nat} {x:Str} {v:V} {u:Value} {Q:Unit→Shared→Prop} (I:be X pins σ H s) (hN:X.N.Nodup) (hi:X.N[i]?=some x) (hx:On X.env.scope x) (r:cZ v u)
  (h:∀s',be X pins (σ.set i (some v)) H s'→(∃a,Heap.SameBut a s.heap s'.heap∧(a=X.env.locals∨X.env.cells.lookup x=some a))→Q ⟨⟩ s') (hf:X.fn x=true∨X.env.scope.names.lookup x=some .local:=by first | exact .inl rfl | exact .inr rfl | assumption):wpAny M A (storeName X.env x u) Q E s:=by
 obtain⟨m,hn,hl⟩:=id I.loc
 have hcls:(X.env.scope.kind== .class || (X.env.scope.kind== .module && X.env.locals !=X.env.globals))=false:=by rw [I.ok.kind];rfl
 have hiσ:i<σ.length:=by rw [I.len];exact(cg.mp hi).1
 have cne:=I.cne
 have tracked:∀{a:Addr} {h':Heap},(∃o,s.heap.get? a=some o∧H a=none)→Heap.SameBut a s.heap h'→vW X.prog X.w H h':=fun {a h'} ha hs b ob e=>by
  obtain⟨_,_,hfree⟩:=ha
  refine(I.hok b ob e).stay (fun c w' hc q=>(hs.2 c ?_).trans q) (fun _ q=>q) fun _ _ q=>q
  rintro rfl
  rcases hc with rfl | hc
  ·rw [hfree] at e;cases e
  ·rw [hfree] at hc;cases hc
 rcases hx with hk | hk
 ·refine wpAny_storeName_local hk hn (fun h' hn' hs=>?_) hcls
  obtain⟨oL,_,_,hoL,_⟩:=id hn
  refine h _ ⟨I.ok,I.os,I.bare,⟨fun b o e n hb hx=>?_,fun b o e n hb hx=>?_,I.base.free,fun b o e hx=>?_,I.base.tups,I.base.frzs,I.base.tbls⟩,⟨_,hn',fun j y v' e1 e2 e3=>?_⟩,fun y c e=>?_,I.free,I.freeC,fun p hp=>?_,tracked ⟨oL,hoL,I.free⟩ hs,by simpa using I.len⟩ ⟨_,hs,.inl rfl⟩
  ·exact(hs.2 b (fm (gR (fo e) I.ok.above))).trans (I.base.keep b o e n hb hx)
  ·obtain⟨sl,e1⟩:=I.base.slot b o e n hb hx
   exact⟨sl,(hs.2 b (fm (gR (fo e) I.ok.above))).trans e1⟩
  ·obtain⟨o',e1⟩:=I.base.there b o e hx
   exact⟨o',(hs.2 b (fm (gR (fo e) I.ok.above))).trans e1⟩
  ·by_cases hj:j=i
   ·subst hj
    rw [hi] at e1;cases e1
    rw [AB hiσ] at e2
    cases e2
    exact⟨u,r,.inl ⟨hk,by simp⟩⟩
   ·rw [AA (Ne.symm hj)] at e2
    obtain⟨u',r',q⟩:=hl j y v' e1 e2 e3
    refine⟨u',r',?_⟩
    rcases q with⟨k,e⟩ | ⟨k,c,e,z⟩
    ·refine .inl ⟨k,?_⟩
     have:y≠x:=fun e=>hj (BS hN e1 (e▸hi))
     simp [this,e]
    ·exact .inr ⟨k,c,e,z.sameBut hs (cne y c e)⟩
  ·obtain⟨w',z⟩:=I.cell y c e
   exact⟨w',z.sameBut hs (cne y c e)⟩
  ·obtain⟨e,n,ne,nf,d⟩:=I.pin p hp
   exact⟨(hs.2 p.1 ne).trans e,n,ne,nf,d⟩
 ·have hfn:X.fn x=true:=by
   rcases hf with z | z
   ·exact z
   ·rw [z] at hk;cases hk
  obtain⟨c,hc⟩:=I.ok.has x (.inl hk)
  obtain⟨w',z⟩:=I.cell x c hc
  refine wpAny_storeName_cell I.ok.kind hk hc z (fun h' hc' hs=>?_)
  obtain⟨oc,hoc,hocd⟩:=id z
  refine h {s with heap:=h'} ⟨I.ok,I.os,I.bare,⟨fun b o e n hb hx=>?_,fun b o e n hb hx=>?_,I.base.free,fun b o e hx=>?_,I.base.tups,I.base.frzs,I.base.tbls⟩,⟨m,hn.sameBut hs (Ne.symm (cne x c hc)),fun j y v' e1 e2 e3=>?_⟩,fun y c' e=>?_,I.free,I.freeC,fun p hp=>?_,tracked ⟨oc,hoc,I.freeC x c hc⟩ hs,by simpa using I.len⟩ ⟨c,hs,.inr hc⟩
  ·exact(hs.2 b (fm (gR (fo e) (I.ok.cab x c hfn hc)))).trans (I.base.keep b o e n hb hx)
  ·obtain⟨sl,e1⟩:=I.base.slot b o e n hb hx
   exact⟨sl,(hs.2 b (fm (gR (fo e) (I.ok.cab x c hfn hc)))).trans e1⟩
  ·obtain⟨o',e1⟩:=I.base.there b o e hx
   exact⟨o',(hs.2 b (fm (gR (fo e) (I.ok.cab x c hfn hc)))).trans e1⟩
  ·by_cases hj:j=i
   ·subst hj
    rw [hi] at e1;cases e1
    rw [AB hiσ] at e2
    cases e2
    exact⟨u,r,.inr ⟨.inl hk,c,hc,hc'⟩⟩
   ·rw [AA (Ne.symm hj)] at e2
    obtain⟨u',r',q⟩:=hl j y v' e1 e2 e3
    refine⟨u',r',?_⟩
    rcases q with q | ⟨k,c',e,z'⟩
    ·exact .inl q
    ·refine .inr ⟨k,c',e,z'.sameBut hs ?_⟩
     rintro rfl
     exact hj (BS hN e1 (I.ok.inj _ _ _ e hc▸hi))
  ·by_cases hcc:c'=c
   ·subst hcc;exact⟨_,hc'⟩
   ·obtain⟨w2,z2⟩:=I.cell y c' e
    exact⟨w2,z2.sameBut hs hcc⟩
  ·obtain⟨e,n,ne,nf,d⟩:=I.pin p hp
   refine⟨(hs.2 p.1 ?_).trans e,n,ne,nf,d⟩
   intro q
   rw [q,hoc] at e
   have q':oc=p.2:=bG e
   exact d w' (by rw [←q'];exact hocd)
theorem CT {M:Model} {A:Around} {E:Value→Shared→Prop} {i:Nat} {x:Str} {v:V} {u:Value} {Q:Unit→Shared→Prop} (I:be X pins σ H s) (hN:X.N.Nodup) (hi:X.N[i]?=some x) (hx:On X.env.scope x) (r:cZ v u)
  (h:∀s',be X pins (σ.set i (some v)) H s'→Q ⟨⟩ s') (hf:X.fn x=true∨X.env.scope.names.lookup x=some .local:=by first | exact .inl rfl | exact .inr rfl | assumption):wpAny M A (storeName X.env x u) Q E s:=
 EB I hN hi hx r (fun s' I' _=>h s' I') hf
theorem be.call' {s':Shared} {ch:List Addr} (I:be X pins σ H s) (ho:s'.os=s.os) (u:Un (LJ X.stack) ch H H' s.heap s'.heap) (hok:vW X.prog X.w H' s'.heap) (hg:AllBare s'.gens)
  (hch:∀b∈ch,(b∈X.ex∨X.s_0.heap.objs.size≤b)∧b≠X.env.locals∧(∀x c,X.env.cells.lookup x=some c→c≠b)∧∀p∈X.pn++pins,p.1≠b):be X pins σ H' s':=by
 obtain⟨h',g',d',t',o'⟩:=s'
 have e:o'=s.os:=ho
 subst e
 exact I.call (g':=g') (t':=t') (d':=d') u hok hg hch
end
abbrev XK:=Value→Option Addr→Hp→Prop
abbrev St:=List (Option V)
abbrev VK:=V→Hp→Prop
abbrev TE:=St→Hp→VK→Prop
abbrev TT:=St→Hp→(Bool→Hp→Prop)→Prop
abbrev TA:=St→Hp→(List V→Hp→Prop)→Prop
structure FV where
 nx:St→Hp→Prop
 rt:VK
 bk:St→Hp→Prop:=fun _ _=>False
 ct:St→Hp→Prop:=fun _ _=>False
abbrev TS:=FV→St→Hp→Prop
def EP (X:Cx) (pins:List (Addr×Obj)) (σ:St) (Q:VK) (u:Value) (s':Shared):Prop:=∃v H',be X pins σ H' s'∧cZ v u∧Q v H'
def TP (X:Cx) (pins:List (Addr×Obj)) (σ:St) (Q:Bool→Hp→Prop) (b:Bool) (s':Shared):Prop:=∃H',be X pins σ H' s'∧Q b H'
def AP (X:Cx) (pins:List (Addr×Obj)) (σ:St) (Q:List V→Hp→Prop) (us:List Value) (s':Shared):Prop:=∃vs H',be X pins σ H' s'∧bO vs us∧Q vs H'
def SP (X:Cx) (pins:List (Addr×Obj)) (D:FV) (f:Flow) (s':Shared):Prop:=
 match f with
 | .next=>∃σ' H',be X pins σ' H' s'∧D.nx σ' H'
 | .brk=>∃σ' H',be X pins σ' H' s'∧D.bk σ' H'
 | .cont=>∃σ' H',be X pins σ' H' s'∧D.ct σ' H'
 | .ret u=>∃v σ' H',be X pins σ' H' s'∧cZ v u∧D.rt v H'
def PE (X:Cx) (e:Expr) (t:TE):Prop:=
 ∀(pins:List (Addr×Obj)) (s:Shared) (σ:St) (H:Hp) (Q:VK),be X pins σ H s→t σ H Q→wpAny (model X.prog X.w) X.A (eval e X.env) (EP X pins σ Q) X.xe s
def PT (X:Cx) (e:Expr) (t:TT):Prop:=
 ∀(pins:List (Addr×Obj)) (s:Shared) (σ:St) (H:Hp) (Q:Bool→Hp→Prop),be X pins σ H s→t σ H Q→wpAny (model X.prog X.w) X.A (isTrue e X.env (eval e X.env)) (TP X pins σ Q) X.xe s
def PW (X:Cx) (e:Expr) (t:TT):Prop:=
 ∀(whole:Sem Value) (pins:List (Addr×Obj)) (s:Shared) (σ:St) (H:Hp) (Q:Bool→Hp→Prop),be X pins σ H s→t σ H Q→wpAny (model X.prog X.w) X.A (isTrue e X.env whole) (TP X pins σ Q) X.xe s
def PA (X:Cx) (es:List Expr) (t:TA):Prop:=
 ∀(pos:Pos) (pins:List (Addr×Obj)) (s:Shared) (σ:St) (H:Hp) (Q:List V→Hp→Prop),be X pins σ H s→t σ H Q→wpAny (model X.prog X.w) X.A (spliced (backTo pos (starEach es X.env))) (AP X pins σ Q) X.xe s
def PS (X:Cx) (st:Stmt) (t:TS):Prop:=
 ∀(pins:List (Addr×Obj)) (s:Shared) (σ:St) (H:Hp) (D:FV),be X pins σ H s→t D σ H→wpAny (model X.prog X.w) X.A (exec st X.env) (SP X pins D) X.xe s
def HS (X:Cx) (st:List Stmt) (t:TS):Prop:=
 ∀(pins:List (Addr×Obj)) (s:Shared) (σ:St) (H:Hp) (D:FV),be X pins σ H s→t D σ H→wpAny (model X.prog X.w) X.A (execs st X.env) (SP X pins D) X.xe s
theorem eS {α:Type} {t:Sem α} {Q Q':α→Shared→Prop} {M:Model} {A:Around} {E:Value→Shared→Prop} {s:Shared} (h:wpAny M A t Q E s) (hQ:∀a s,Q a s→Q' a s):wpAny M A t Q' E s:=kR h hQ fun _ _ x=>x
end L2
namespace L2
open PySem PySem.Spec PyProof.Rows
section
variable {X:Cx}
theorem RE {a b:Expr} {ta tb:TE} (ha:PE X a ta) (hb:PE X b tb) {pins:List (Addr×Obj)} {s:Shared} {σ:St} {H:Hp} {R:V→V→Hp→Prop} (I:be X pins σ H s) (h:ta σ H fun x H1=>tb σ H1 fun y H2=>R x y H2)
  {α:Type} {Q:α→Shared→Prop} {f:Value→Value→Sem α}
  (hf:∀v u s2 x y H2,be X pins σ H2 s2→cZ x v→cZ y u→R x y H2→wpAny (model X.prog X.w) X.A (f v u) Q X.xe s2):
  wpAny (model X.prog X.w) X.A (eval a X.env) (fun v s₁=>wpAny (model X.prog X.w) X.A (eval b X.env) (fun u s₂=>wpAny (model X.prog X.w) X.A (f v u) Q X.xe s₂) X.xe s₁) X.xe s:=by
 refine eS (ha pins s σ H _ I h) fun v s1 ⟨x,H1,I1,r1,q1⟩=>?_
 refine eS (hb pins s1 σ H1 _ I1 q1) fun u s2 ⟨y,H2,I2,r2,q2⟩=>?_
 exact hf v u s2 x y H2 I2 r1 r2 q2
def O9 (i:Nat):TE:=fun σ H Q=>∃v,σ[i]?=some (some v)∧Q v H
def tC (v:V):TE:=fun _ H Q=>Q v H
theorem Mr {i:Nat} {x:Str} {pos:Pos} (hN:X.N[i]?=some x) (hv:Oq X.env.scope x) (hd:(x==("__debug__":Str))=false:=by decide) (hcd:(x==("__classdict__":Str))=false:=by decide):PE X (.Name x pos) (O9 i):=by
 intro pins s σ H Q I h
 obtain⟨v,e,h⟩:=h
 obtain⟨m,hn,hl⟩:=I.loc
 obtain⟨u,r,l⟩:=hl i x v hN e hv
 have fin:EP X pins σ Q u s:=⟨v,H,I,r,h⟩
 rcases l with⟨hk,hm⟩ | ⟨hk,c,hc,hcell⟩
 ·exact wpAny_Name (wpAny_loadName_local I.ok.kind hk hn hm fin) hd
 ·rcases hk with hk | hk
  ·exact wpAny_Name (wpAny_loadName_cell I.ok.kind hk hc hcell fin) hd
  ·exact wpAny_Name (wpAny_loadName_free I.ok.kind hk hc hcell fin hcd) hd
theorem am {i j pos}:PE X (.Constant (.int i) j pos) (tC (.int i)):=fun _ _ _ H _ I h=>wpAny_Constant_int ⟨.int i,H,I.tok _,⟨_,rfl⟩,h⟩
theorem Od {b j pos}:PE X (.Constant (.bool b) j pos) (tC (.bl b)):=fun _ _ _ H _ I h=>Constant_bool ⟨.bl b,H,I,rfl,h⟩
theorem de {j pos}:PE X (.Constant .none j pos) (tC .non):=fun _ _ _ H _ I h=>Constant_none ⟨.non,H,I,rfl,h⟩
def Gl (X:Cx) (x:Str):Prop:=X.env.kindOf x=some .globalImplicit
theorem Bo {E:Value→Shared→Prop} {pins:List (Addr×Obj)} {s:Shared} {σ:St} {H:Hp} {x:Str} {u:Value} {pos:Pos} {Q:Value→Shared→Prop} (I:be X pins σ H s) (hg:Gl X x) (hm:X.mg x=some u) (h:Q u s)
  (hd:(x==("__debug__":Str))=false:=by decide):wpAny (model X.prog X.w) X.A (eval (.Name x pos) X.env) Q E s:=
 Calls.Name_function_global I.ok.kind hg (Calls.loadGlobal_global (by rw [I.ok.glob];exact I.mod.glob.keeps I.bk) hm h) hd
theorem v8 {E:Value→Shared→Prop} {pins:List (Addr×Obj)} {s:Shared} {σ:St} {H:Hp} {x:Str} {u:Value} {pos:Pos} {Q:Value→Shared→Prop} (I:be X pins σ H s) (hg:Gl X x) (hm:X.mg x=none) (hv:bootBuiltins x=some u) (h:Q u s)
  (hn:x≠"__name__":=by decide) (hd:(x==("__debug__":Str))=false:=by decide):wpAny (model X.prog X.w) X.A (eval (.Name x pos) X.env) Q E s:=by
 obtain⟨mb,h1,h2⟩:=I.mod.blt
 exact Calls.Name_function_global I.ok.kind hg (Calls.loadGlobal_builtin (by rw [I.ok.glob];exact I.mod.glob.keeps I.bk) hm (by rw [I.ok.blt];exact h1.keeps I.bk) ((h2 x hn).trans hv) h) hd
theorem JI {x:Str} {v:V} {u:Value} {pos:Pos} (hg:Gl X x) (hm:X.mg x=some u) (r:cZ v u) (hd:(x==("__debug__":Str))=false:=by decide):PE X (.Name x pos) (tC v):=
 fun _ _ _ H _ I h=>Bo I hg hm ⟨v,H,I,r,h⟩ hd
variable {a b:Expr} {ta tb:TE} {pos:Pos}
def PC (X:Cx) (op:CmpOp) (a b:Expr) (t:TE):Prop:=
 ∀(pins:List (Addr×Obj)) (s:Shared) (σ:St) (H:Hp) (Q:VK),be X pins σ H s→t σ H Q→
  wpAny (model X.prog X.w) X.A (eval a X.env) (fun v s₁=>wpAny (model X.prog X.w) X.A (eval b X.env) (fun u s₂=>wpAny (model X.prog X.w) X.A (compareOp op v u) (EP X pins σ Q) X.xe s₂) X.xe s₁) X.xe s
def tB (t:TE):TT:=fun σ H Q=>t σ H fun x H1=>∃c,x= .bl c∧Q c H1
theorem OS {op:CmpOp} {t:TE} (h:PC X op a b t) (h1:behindInMarks op b=false:=by first | exact nobehind _ () () | rfl):PE X (.Compare a [op] [b] pos) t:=fun pins s σ H Q I hw=>wpAny_Compare1 (h pins s σ H Q I hw) h1
theorem OX {op:CmpOp} {t:TE} (h:PC X op a b t) (h1:behindInMarks op b=false:=by first | exact nobehind _ () () | rfl):PT X (.Compare a [op] [b] pos) (tB t):=by
 intro pins s σ H Q I hw
 refine wpAny_isTrue_Compare1 (eS (h pins s σ H _ I hw) fun v s1 h1=>eS h1 fun u s2 h2=>eS h2 fun c s3 ⟨x,H1,I1,r1,q1⟩=>?_) h1
 obtain⟨d,rfl,q⟩:=q1
 cases r1
 exact wX ⟨H1,I1,q⟩
theorem aS {e:Expr} {t:TE} (h:PE X e t) (he:∀whole,isTrue e X.env whole=(do let v ←whole;standAt e.pos;holding [v] (truthy v)):=by intro _;rfl):PT X e (tB t):=by
 intro pins s σ H Q I hw
 refine isTrue_plain (eS (h pins s σ H _ I hw) fun v s1 ⟨x,H1,I1,r1,q1⟩=>?_) (he _)
 obtain⟨d,rfl,q⟩:=q1
 cases r1
 exact wX ⟨H1,I1,q⟩
variable {tA tB':TT} {rest:List Expr}
def Q5 (t u:TT):TT:=fun σ H Q=>t σ H fun c H1=>if c=true then u σ H1 Q else Q false H1
def RA (t u:TT):TT:=fun σ H Q=>t σ H fun c H1=>if c=true then Q true H1 else u σ H1 Q
def Ra (t:TT):TT:=fun σ H Q=>t σ H fun c H1=>Q (!c) H1
theorem NI (ha:PT X a tA):PW X (.BoolOp .And [a] pos) tA:=by
 intro wh pins s σ H Q I h
 refine isTrue_and (eS (ha pins s σ H Q I h) fun c s1 e=>?_)
 cases c with
 | true=>exact isTrue_and_nil e
 | false=>exact e
theorem ik (ha:PT X a tA):PW X (.BoolOp .Or [a] pos) tA:=by
 intro wh pins s σ H Q I h
 refine isTrue_or (eS (ha pins s σ H Q I h) fun c s1 e=>?_)
 cases c with
 | false=>exact isTrue_or_nil e
 | true=>exact e
theorem OY (ha:PT X a tA) (hb:PW X (.BoolOp .And (b::rest) pos) tB'):PW X (.BoolOp .And (a::b::rest) pos) (Q5 tA tB'):=by
 intro wh pins s σ H Q I h
 refine isTrue_and (eS (ha pins s σ H _ I h) fun c s1 ⟨H1,I1,q1⟩=>?_)
 cases c with
 | true=>exact hb wh pins s1 σ H1 Q I1 q1
 | false=>exact⟨H1,I1,q1⟩
theorem ic (ha:PT X a tA) (hb:PW X (.BoolOp .Or (b::rest) pos) tB'):PW X (.BoolOp .Or (a::b::rest) pos) (RA tA tB'):=by
 intro wh pins s σ H Q I h
 refine isTrue_or (eS (ha pins s σ H _ I h) fun c s1 ⟨H1,I1,q1⟩=>?_)
 cases c with
 | true=>exact⟨H1,I1,q1⟩
 | false=>exact hb wh pins s1 σ H1 Q I1 q1
theorem aV (ha:PT X a tA):PT X (.UnaryOp .Not a pos) (Ra tA):=by
 intro pins s σ H Q I h
 exact isTrue_not (ha pins s σ H (fun c H1=>Q (!c) H1) I h)
def P6 (ta tb:TE):TE:=fun σ H Q=>ta σ H fun x H1=>∃c,x= .bl c∧if c=true then tb σ H1 Q else Q (.bl false) H1
def Qe (ta:TE):TE:=fun σ H Q=>ta σ H fun x H1=>∃c,x= .bl c∧Q (.bl (!c)) H1
theorem OU {op} {t:TE} (h:PE X a t):PE X (.BoolOp op [a] pos) t:=fun pins s σ H Q I hw=>BoolOp_one (h pins s σ H Q I hw)
theorem Mm (ha:PE X a ta) (hb:PE X (.BoolOp .And (b::rest) pos) tb):PE X (.BoolOp .And (a::b::rest) pos) (P6 ta tb):=by
 intro pins s σ H Q I h
 refine BoolOp_and (eS (ha pins s σ H _ I h) fun v s1 ⟨x,H1,I1,r1,q1⟩=>?_)
 obtain⟨c,rfl,q1⟩:=q1
 cases r1
 refine wX ?_
 cases c with
 | true=>exact hb pins s1 σ H1 Q I1 q1
 | false=>exact⟨.bl false,H1,I1,rfl,q1⟩
theorem OT (ha:PE X a ta):PE X (.UnaryOp .Not a pos) (Qe ta):=by
 intro pins s σ H Q I h
 refine UnaryOp_ (eS (ha pins s σ H _ I h) fun v s1 ⟨x,H1,I1,r1,q1⟩=>?_)
 obtain⟨c,rfl,q1⟩:=q1
 cases r1
 exact not_of (wX ⟨.bl (!c),H1,I1,rfl,q1⟩)
def Rz (t:TT) (ta tb:TE):TE:=fun σ H Q=>t σ H fun c H1=>if c=true then ta σ H1 Q else tb σ H1 Q
theorem xL {c:Expr} (hc:PT X c tA) (ha:PE X a ta) (hb:PE X b tb):PE X (.IfExp c a b pos) (Rz tA ta tb):=by
 intro pins s σ H Q I h
 refine wpAny_IfExp (eS (hc pins s σ H _ I h) fun d s1 ⟨H1,I1,q1⟩=>?_)
 cases d with
 | true=>exact ha pins s1 σ H1 Q I1 q1
 | false=>exact hb pins s1 σ H1 Q I1 q1
end
end L2
namespace L2
open PySem PySem.Spec PyProof.Rows
def a5 (K:PySem.W.Frag) (H:Hp) (a:Addr) (xs:List V):Prop:=
 Rd H a (.lst xs)∨
  ∃(o:Obj) (its:Array Value) (n:Nat),K.lookup a=some o∧o.cls= .type "list"∧o.dict=none∧o.data= .seq its n∧its.size≤sizeLine∧bO xs its.toList
def HU (K:PySem.W.Frag) (H:Hp) (a:Addr) (xs:List V):Prop:=
 Rd H a (.tup xs)∨
  ∃(o:Obj) (its:Array Value) (n:Nat),K.lookup a=some o∧o.cls= .type "tuple"∧o.data= .seq its n∧its.size≤sizeLine∧bO xs its.toList
def QA:Value→Option V
 | .none=>some .non
 | .bool b=>some (.bl b)
 | .int i _=>some (.int i)
 | .str x _=>some (.str x)
 | .bytes b _=>some (.byt b)
 | .float b _=>some (.flt b)
 | .ref a=>some (.ref a)
 | .type n=>some (.ty n)
 | _=>none
theorem cZ.abs {x:V} {u:Value} (r:cZ x u):QA u=some x:=by
 cases x with
 | non=>cases r;rfl
 | bl _=>cases r;rfl
 | int _=>obtain⟨t,rfl⟩:=r;rfl
 | str _=>obtain⟨t,rfl⟩:=r;rfl
 | byt _=>obtain⟨t,rfl⟩:=r;rfl
 | flt _=>obtain⟨t,rfl⟩:=r;rfl
 | ref _=>cases r;rfl
 | ty _=>cases r;rfl
theorem cZ.inj {x y:V} {u:Value} (r:cZ x u) (q:cZ y u):x=y:=bG (r.abs.symm.trans q.abs)
theorem bO.inj:∀{xs ys:List V} {us:List Value},bO xs us→bO ys us→xs=ys
 | _,_,_,.nil,.nil=>rfl
 | _,_,_,.cons r t,.cons r' t'=>by rw [r.inj r',bO.inj t t']
section
variable {X:Cx} {pins:List (Addr×Obj)} {σ:St} {H:Hp} {s:Shared} {a:Addr} {xs ys:List V}
theorem a5.of {K:PySem.W.Frag} (h:H a=some (.lst xs)):a5 K H a xs:= .inl (.inl h)
theorem HU.of {K:PySem.W.Frag} (h:H a=some (.tup xs)):HU K H a xs:= .inl (.inl h)
theorem be.list (I:be X pins σ H s) (h:a5 X.K H a xs):∃its:List Value,bO xs its∧PlainL s.heap a its.toArray∧xs.length≤sizeLine:=by
 rcases h with h | ⟨o,its,n,hk,hc,hd,hs,hz,r⟩
 ·obtain⟨z,its,n,r,e⟩:=h.ok I.hok
  exact⟨its,r,⟨_,n,e,rfl,rfl,rfl⟩,z⟩
 ·refine⟨its.toList,r,⟨o,n,I.kIn a o hk,hc,hd,by simpa using hs⟩,?_⟩
  have e:=r.length
  simp only [HB] at e
  omega
theorem be.tuple (I:be X pins σ H s) (h:HU X.K H a xs):∃its:List Value,bO xs its∧IsTup s.heap a its.toArray∧xs.length≤sizeLine:=by
 rcases h with h | ⟨o,its,n,hk,hc,hs,hz,r⟩
 ·obtain⟨z,its,r,p⟩:=h.ok I.hok
  exact⟨its,r,p,z⟩
 ·refine⟨its.toList,r,⟨o,I.kIn a o hk,hc,n,by simpa using hs⟩,?_⟩
  have e:=r.length
  simp only [HB] at e
  omega
theorem be.list_inj (I:be X pins σ H s) (h:a5 X.K H a xs) (h':a5 X.K H a ys):xs=ys:=by
 obtain⟨its,r,⟨o,n,e,_,_,d⟩,_⟩:=I.list h
 obtain⟨its',r',⟨o',n',e',_,_,d'⟩,_⟩:=I.list h'
 rw [e] at e';cases e'
 rw [d] at d'
 injection d' with d1 _
 have:its=its':=by simpa using cA Array.toList d1
 subst this
 exact r.inj r'
end
abbrev Cx.wish (X:Cx) (E:Value→Shared→Prop):Cx:={X with xe:=E}
abbrev Cx.nox (X:Cx):Cx:=X.wish fun _ _=>False
theorem Cx.Ok.wish {X:Cx} (ok:X.Ok) (E:Value→Shared→Prop):(X.wish E).Ok:=
 ⟨ok.mod,ok.kind,ok.glob,ok.blt,ok.above,ok.inj,ok.has,ok.cab,ok.hd,ok.frames,ok.stk,ok.exf,ok.bs,ok.bsz,ok.noex,ok.exfs,ok.funs,ok.frf⟩
theorem Cx.Ok.unwish {X:Cx} {E:Value→Shared→Prop} (ok:(X.wish E).Ok):X.Ok:=
 ⟨ok.mod,ok.kind,ok.glob,ok.blt,ok.above,ok.inj,ok.has,ok.cab,ok.hd,ok.frames,ok.stk,ok.exf,ok.bs,ok.bsz,ok.noex,ok.exfs,ok.funs,ok.frf⟩
section
variable {X:Cx} {pins:List (Addr×Obj)} {σ:St} {H:Hp} {s:Shared} {E:Value→Shared→Prop}
theorem be.wish (I:be X pins σ H s) (E:Value→Shared→Prop):be (X.wish E) pins σ H s:=⟨I.ok.wish E,I.os,I.bare,I.base,I.loc,I.cell,I.free,I.freeC,I.pin,I.hok,I.len⟩
theorem be.unwish (I:be (X.wish E) pins σ H s):be X pins σ H s:=⟨I.ok.unwish,I.os,I.bare,I.base,I.loc,I.cell,I.free,I.freeC,I.pin,I.hok,I.len⟩
theorem SP.unwish {D:FV} {f:Flow} {s':Shared} (h:SP (X.wish E) pins D f s'):SP X pins D f s':=by
 cases f with
 | next=>obtain⟨σ',H',I,q⟩:=h;exact⟨σ',H',I.unwish,q⟩
 | brk=>obtain⟨σ',H',I,q⟩:=h;exact⟨σ',H',I.unwish,q⟩
 | cont=>obtain⟨σ',H',I,q⟩:=h;exact⟨σ',H',I.unwish,q⟩
 | ret u=>obtain⟨v,σ',H',I,r,q⟩:=h;exact⟨v,σ',H',I.unwish,r,q⟩
theorem HS.nox {st:List Stmt} {t:TS} (h:HS X.nox st t):HS X st t:=fun pins s σ H D I hw=>
 kR (h pins s σ H D (I.wish _) hw) (fun _ _ q=>q.unwish) fun _ _ z=>False.elim z
end
section
variable {X:Cx} {st:Stmt} {rest:List Stmt} {t u:TS} {e:Expr} {te:TE} {pos:Pos}
def Qc:TS:=fun D σ H=>D.nx σ H
def Rc (t u:TS):TS:=fun D σ H=>t {D with nx:=u D} σ H
theorem aG:HS X [] Qc:=fun _ _ σ H _ I h=>wpAny_execs_nil ⟨σ,H,I,h⟩
theorem ac (h1:PS X st t) (h2:HS X rest u):HS X (st::rest) (Rc t u):=by
 intro pins s σ H D I h
 refine wpAny_execs_cons (eS (h1 pins s σ H {D with nx:=u D} I h) fun f s1 q=>?_)
 cases f with
 | next=>
  obtain⟨σ',H',I',q⟩:=q
  exact h2 pins s1 σ' H' D I' q
 | ret v=>exact q
 | brk=>exact q
 | cont=>exact q
theorem ae (h1:PS X st t):HS X [st] t:=by
 intro pins s σ H D I h
 refine wpAny_execs_cons (eS (h1 pins s σ H D I h) fun f s1 q=>?_)
 cases f with
 | next=>exact wpAny_execs_nil q
 | ret v=>exact q
 | brk=>exact q
 | cont=>exact q
theorem be.quiet {pins:List (Addr×Obj)} {σ:St} {H:Hp} {s:Shared} (I:be X pins σ H s):interactive X.env=false:=by simp [interactive,I.ok.kind]
def P9 (te:TE):TS:=fun D σ H=>te σ H fun _ H1=>D.nx σ H1
theorem gw (he:PE X e te) (hs:swapsWith e none pos.line X.env=pure false:=by rfl):PS X (.Expr e pos) (P9 te):=by
 intro pins s σ H D I h
 exact wpAny_Expr_any (eS (he pins s σ H _ I h) fun v s1 ⟨x,H1,I1,r1,q1⟩=>⟨σ,H1,I1,q1⟩) I.quiet hs
def Rb (te:TE):TS:=fun D σ H=>te σ H D.rt
theorem aj (he:PE X e te):PS X (.Return (some e) pos) (Rb te):=by
 intro pins s σ H D I h
 exact wpAny_Return_some (eS (he pins s σ H _ I h) fun v s1 ⟨x,H1,I1,r1,q1⟩=>⟨x,σ,H1,I1,r1,q1⟩)
def Q8 (c:TT) (t u:TS):TS:=fun D σ H=>c σ H fun b H1=>if b=true then t D σ H1 else u D σ H1
theorem aT {c:Expr} {a b:List Stmt} {tc:TT} (hc:PT X c tc) (ha:HS X a t) (hb:HS X b u):PS X (.If c a b pos) (Q8 tc t u):=by
 intro pins s σ H D I h
 refine wpAny_If (eS (hc pins s σ H _ I h) fun d s1 ⟨H1,I1,q1⟩=>?_)
 cases d with
 | true=>exact ha pins s1 σ H1 D I1 q1
 | false=>exact hb pins s1 σ H1 D I1 q1
end
abbrev TG:=V→St→Hp→(St→Hp→Prop)→Prop
abbrev N5:=List V→St→Hp→(St→Hp→Prop)→Prop
def PG (X:Cx) (target:Expr) (t:TG):Prop:=
 ∀(pins:List (Addr×Obj)) (s:Shared) (σ:St) (H:Hp) (v:V) (u:Value) (Q:St→Hp→Prop),be X pins σ H s→cZ v u→t v σ H Q→
  wpAny (model X.prog X.w) X.A (assign target X.env u) (fun _ s'=>∃σ' H',be X pins σ' H' s'∧Q σ' H') X.xe s
def Pr (X:Cx) (ts:List Expr) (t:N5):Prop:=
 ∀(pins:List (Addr×Obj)) (s:Shared) (σ:St) (H:Hp) (vs:List V) (us:List Value) (Q:St→Hp→Prop),be X pins σ H s→bO vs us→t vs σ H Q→
  wpAny (model X.prog X.w) X.A (assignInOrder ((assignEach ts X.env).map (·.2)) us) (fun _ s'=>∃σ' H',be X pins σ' H' s'∧Q σ' H') X.xe s
abbrev Lq:=V→V→V→Hp→(Hp→Prop)→Prop
def Op (X:Cx) (t:Lq):Prop:=
 ∀(pins:List (Addr×Obj)) (s:Shared) (σ:St) (H:Hp) (o i v:V) (ov iv u:Value) (Q:Hp→Prop),be X pins σ H s→cZ o ov→cZ i iv→cZ v u→t o i v H Q→
  wpAny (model X.prog X.w) X.A (setItem ov iv u) (fun _ s'=>∃H',be X pins σ H' s'∧Q H') X.xe s
abbrev Ph:=V→V→Hp→VK→Prop
def Qx (X:Cx) (op:Operator) (t:Ph):Prop:=
 ∀(pins:List (Addr×Obj)) (s:Shared) (σ:St) (H:Hp) (x y:V) (v u:Value) (Q:VK),be X pins σ H s→cZ x v→cZ y u→t x y H Q→
  wpAny (model X.prog X.w) X.A (inplaceOp op v u) (EP X pins σ Q) X.xe s
section
variable {X:Cx} {pos:Pos}
def Ea (i:Nat):TG:=fun v σ H Q=>Q (σ.set i (some v)) H
theorem NE {i:Nat} {x:Str} (hN:X.N.Nodup) (hi:X.N[i]?=some x) (hx:On X.env.scope x) (hf:X.fn x=true∨X.env.scope.names.lookup x=some .local:=by first | exact .inl rfl | exact .inr rfl | assumption):PG X (.Name x pos) (Ea i):=by
 intro pins s σ H v u Q I r h
 exact wpAny_assign_Name (CT I hN hi hx r (fun s' I'=>⟨_,H,I',h⟩) hf)
def QH:N5:=fun vs σ H Q=>vs= []∧Q σ H
def Pu (t:TG) (u:N5):N5:=fun vs σ H Q=>∃v r,vs=v::r∧t v σ H fun σ' H'=>u r σ' H' Q
theorem qI:Pr X [] QH:=by
 intro pins s σ H vs us Q I r h
 obtain⟨e,h⟩:=h
 subst e
 cases r
 exact assignInOrder_nil ⟨σ,H,I,h⟩
theorem eX {e:Expr} {es:List Expr} {t:TG} {u:N5} (h1:PG X e t) (h2:Pr X es u)
  (hs:(assignEach (e::es) X.env).map (·.2)=assign e X.env::(assignEach es X.env).map (·.2):=by rfl):Pr X (e::es) (Pu t u):=by
 intro pins s σ H vs us Q I r h
 obtain⟨v,vr,e1,h⟩:=h
 subst e1
 cases r with
 | cons r rr=>
  rw [hs]
  refine assignInOrder_cons (eS (h1 pins s σ H _ _ _ I r h) fun _ s1 ⟨σ1,H1,I1,q1⟩=>?_)
  exact h2 pins s1 σ1 H1 _ _ Q I1 rr q1
def Pw (K:PySem.W.Frag) (n:Nat) (t:N5):TG:=fun v σ H Q=>∃a xs,v= .ref a∧HU K H a xs∧xs.length=n∧t xs σ H Q
theorem Fe {es:List Expr} {k:Nat} {t:N5} {n:Nat} (hc:X.calm=true) (h:Pr X es t)
  (hn:(assignEach es X.env).length=n:=by rfl) (hst:(assignEach es X.env).findIdx? (·.1)=none:=by rfl):PG X (.Tuple es k pos) (Pw X.K n t):=by
 intro pins s σ H v u Q I r hw
 obtain⟨a,xs,e1,hq,hl,hw⟩:=hw
 subst e1
 cases r
 obtain⟨its,rv,ht,hz⟩:=I.tuple hq
 refine assign_Tuple_tuple (I.ok.hd hc) ht (by simp [hn,←hl,rv.length]) hst fun h' hx=>?_
 have I1:be X pins σ H {s with heap:=h'}:=I.kept (t':=s.toks) fun b o e=>hx b o (fm (fo e)) e
 exact h pins _ σ H xs _ Q I1 (by simpa using rv) hw
def QI (to ti:TE) (t:Lq):TG:=fun v σ H Q=>to σ H fun o H1=>ti σ H1 fun i H2=>t o i v H2 fun H3=>Q σ H3
theorem qH {o i:Expr} {to ti:TE} {t:Lq} (ho:PE X o to) (hi:PE X i ti) (hs:Op X t)
  (ha:∀v,assign (.Subscript o i pos) X.env v=(do
   let ov ←holding [v] (eval o X.env)
   let iv ←holding [v,ov] (eval i X.env)
   standAt pos
   holding [v,ov,iv] (setItem ov iv v)
   release [v,ov,iv] []):=by intro _;rfl):PG X (.Subscript o i pos) (QI to ti t):=by
 intro pins s σ H v u Q I r h
 rw [ha]
 refine bK (wpAny_holding (eS (ho pins s σ H _ I h) fun ov s1 ⟨x,H1,I1,r1,q1⟩=>?_))
 refine bK (wpAny_holding (eS (hi pins s1 σ H1 _ I1 q1) fun iv s2 ⟨y,H2,I2,r2,q2⟩=>?_))
 refine bK (wpAny_standAt (bK (wpAny_holding (eS (hs pins s2 σ H2 x y v ov iv u _ I2 r1 r2 r q2) fun _ s3 ⟨H3,I3,q3⟩=>?_))))
 exact wpAny_release ⟨σ,H3,I3,q3⟩
def NU (te:TE) (g:TG):TS:=fun D σ H=>te σ H fun x H1=>g x σ H1 D.nx
theorem qK {tg e:Expr} {te:TE} {g:TG} (he:PE X e te) (hg:PG X tg g) (hs:swapsWithSole [tg] e pos.line X.env=pure false:=by rfl) (hw:swappedStores [tg] e X.env=pure none:=by rfl)
  (h1:(assignEach [tg] X.env).map (·.2)= [assign tg X.env]:=by rfl):PS X (.Assign [tg] e pos) (NU te g):=by
 intro pins s σ H D I h
 refine wpAny_Assign_stores (eS (he pins s σ H _ I h) fun v s1 ⟨x,H1,I1,r1,q1⟩=>?_) hs hw
 rw [h1]
 exact eS (hg pins s1 σ H1 x v _ I1 r1 q1) fun _ s2 q=>q
theorem OW {i:Nat} {x:Str} {e:Expr} {te:TE} {pos':Pos} (hN:X.N.Nodup) (hi:X.N[i]?=some x) (hx:On X.env.scope x) (he:PE X e te) (hs:swapsWith e (some (.Name x pos')) pos.line X.env=pure false:=by rfl) (hf:X.fn x=true∨X.env.scope.names.lookup x=some .local:=by first | exact .inl rfl | exact .inr rfl | assumption):
  PS X (.Assign [.Name x pos'] e pos) (NU te (Ea i)):=by
 intro pins s σ H D I h
 refine wpAny_Assign_Name (eS (he pins s σ H _ I h) fun v s1 ⟨y,H1,I1,r1,q1⟩=>?_) hs
 exact CT I1 hN hi hx r1 (fun s2 I2=>⟨_,H1,I2,q1⟩) hf
def Q6 (i:Nat) (te:TE) (ti:Ph):TS:=fun D σ H=>∃x,σ[i]?=some (some x)∧te σ H fun y H1=>ti x y H1 fun z H2=>D.nx (σ.set i (some z)) H2
theorem ou {i:Nat} {x:Str} {e:Expr} {te:TE} {op:Operator} {ti:Ph} {pos':Pos} (hN:X.N.Nodup) (hi:X.N[i]?=some x) (hx:On X.env.scope x) (he:PE X e te) (ho:Qx X op ti) (hf:X.fn x=true∨X.env.scope.names.lookup x=some .local:=by first | exact .inl rfl | exact .inr rfl | assumption):
  PS X (.AugAssign (.Name x pos') op e pos) (Q6 i te ti):=by
 intro pins s σ H D I h
 obtain⟨v,e1,h⟩:=h
 obtain⟨m,hn,hl⟩:=I.loc
 have vis:Oq X.env.scope x:=by rcases hx with k | k;exact .inl k;exact .inr (.inl k)
 obtain⟨u,r,l⟩:=hl i x v hi e1 vis
 refine wpAny_AugAssign_Name ?_
 have go:wpAny (model X.prog X.w) X.A (eval e X.env) (fun w s₂=>wpAny (model X.prog X.w) X.A (inplaceOp op u w) (fun r s₃=>wpAny (model X.prog X.w) X.A (storeName X.env x r) (fun _=>SP X pins D .next) X.xe s₃) X.xe s₂) X.xe s:=by
  refine eS (he pins s σ H _ I h) fun w s1 ⟨y,H1,I1,r1,q1⟩=>?_
  refine eS (ho pins s1 σ H1 v y u w _ I1 r r1 q1) fun z s2 ⟨zv,H2,I2,r2,q2⟩=>?_
  exact CT I2 hN hi hx r2 (fun s3 I3=>⟨_,H2,I3,q2⟩) hf
 rcases l with⟨hk,hm⟩ | ⟨hk,c,hc,hcell⟩
 ·exact wpAny_loadName_local I.ok.kind hk hn hm go
 ·rcases hk with hk | hk
  ·exact wpAny_loadName_cell I.ok.kind hk hc hcell go
  ·rcases hx with k | k
   ·have:X.env.scope.names.lookup x=some .free:=hk
    rw [k] at this;cases this
   ·have:X.env.scope.names.lookup x=some .free:=hk
    rw [k] at this;cases this
def P7 (to ti te:TE) (tget:V→V→Hp→VK→Prop) (tip:Ph) (tset:Lq):TS:=fun D σ H=>to σ H fun o H1=>ti σ H1 fun i H2=>tget o i H2 fun x H3=>te σ H3 fun y H4=>tip x y H4 fun z H5=>tset o i z H5 fun H6=>D.nx σ H6
def Pq (X:Cx) (t:V→V→Hp→VK→Prop):Prop:=
 ∀(pins:List (Addr×Obj)) (s:Shared) (σ:St) (H:Hp) (o i:V) (ov iv:Value) (Q:VK),be X pins σ H s→cZ o ov→cZ i iv→t o i H Q→
  wpAny (model X.prog X.w) X.A (getItem ov iv) (EP X pins σ Q) X.xe s
theorem NH {o i e:Expr} {to ti te:TE} {tget:V→V→Hp→VK→Prop} {tip:Ph} {tset:Lq} {op:Operator} {tpos:Pos} (ho:PE X o to) (hi:PE X i ti) (hg:Pq X tget) (he:PE X e te) (hp:Qx X op tip) (hs:Op X tset)
  (ha:∀ov iv new,augStore i ov iv new=(do holding [new,ov,iv] (setItem ov iv new);release [new,ov,iv] [];pure .next):=by intros;rfl):PS X (.AugAssign (.Subscript o i tpos) op e pos) (P7 to ti te tget tip tset):=by
 intro pins s σ H D I h
 refine wpAny_AugAssign_SubscriptAny (eS (ho pins s σ H _ I h) fun ov s1 ⟨x1,H1,I1,r1,q1⟩=>?_) ha
 refine eS (hi pins s1 σ H1 _ I1 q1) fun iv s2 ⟨x2,H2,I2,r2,q2⟩=>?_
 refine eS (hg pins s2 σ H2 x1 x2 ov iv _ I2 r1 r2 q2) fun old s3 ⟨x3,H3,I3,r3,q3⟩=>?_
 refine eS (he pins s3 σ H3 _ I3 q3) fun v s4 ⟨x4,H4,I4,r4,q4⟩=>?_
 refine eS (hp pins s4 σ H4 x3 x4 old v _ I4 r3 r4 q4) fun new s5 ⟨x5,H5,I5,r5,q5⟩=>?_
 exact eS (hs pins s5 σ H5 x1 x2 x5 ov iv new _ I5 r1 r2 r5 q5) fun _ s6 ⟨H6,I6,q6⟩=>⟨σ,H6,I6,q6⟩
def Ru (f:Int→Int→Int):Ph:=fun x y H Q=>∃i j,x= .int i∧y= .int j∧Q (.int (f i j)) H
theorem mw:Qx X .Add (Ru fun i j=>i+j):=by
 intro pins s σ H x y v u Q I r1 r2 h
 obtain⟨i,j,e1,e2,q⟩:=h
 subst e1;subst e2
 obtain⟨t,rfl⟩:=r1
 obtain⟨t',rfl⟩:=r2
 exact iadd_int ⟨.int _,H,I.tok _,⟨_,rfl⟩,q⟩
end
section
variable {X:Cx} {pos:Pos}
def Pa (c:TT) (tb:TS):TS:=fun D σ H=>∃W:Nat→St→Hp→Prop,(∃m,W m σ H)∧∀m σ H,W m σ H→
 c σ H fun b H1=>if b=true then ∃N:St→Hp→Prop,(∀σ' H',N σ' H'→∃m',m'<m∧W m' σ' H')∧tb {D with nx:=N,ct:=N,bk:=D.nx} σ H1 else D.nx σ H1
theorem lq {c:Expr} {body:List Stmt} {tc:TT} {tb:TS} (hp:PassesOwn (model X.prog X.w) X.A X.env X.xe) (hc:PT X c tc) (hb:HS X body tb):PS X (.While c body [] pos) (Pa tc tb):=by
 intro pins s σ H D I h
 obtain⟨W,⟨m0,w0⟩,turn⟩:=h
 refine wpAny_While (codeAny_whileLoop (fun n s'=>∃σ' H',be X pins σ' H' s'∧W n σ' H') ?_ m0 ⟨σ,H,I,w0⟩)
 rintro n s1 ⟨σ1,H1,I1,w1⟩
 refine wW hp (eS (hc pins s1 σ1 H1 _ I1 (turn n σ1 H1 w1)) fun b s2 ⟨H2,I2,q2⟩=>?_)
 cases b with
 | true=>
  obtain⟨N,hN,q2⟩:=q2
  rw [if_pos rfl]
  refine wW hp (eS (hb pins s2 σ1 H2 _ I2 q2) fun f s3 q3=>?_)
  cases f with
  | next=>
   obtain⟨σ3,H3,I3,n3⟩:=q3
   obtain⟨m',hm,w3⟩:=hN σ3 H3 n3
   exact⟨m',hm,σ3,H3,I3,w3⟩
  | cont=>
   obtain⟨σ3,H3,I3,n3⟩:=q3
   obtain⟨m',hm,w3⟩:=hN σ3 H3 n3
   exact⟨m',hm,σ3,H3,I3,w3⟩
  | brk=>exact q3
  | ret v=>exact q3
 | false=>
  rw [if_neg uI]
  exact wpAny_execs_nil ⟨σ1,H2,I2,q2⟩
end
structure It where
 go:Nat→Hp→Prop
 yld:Nat→Hp→V→Hp→Prop
 stop:Nat→Hp→Prop
def AE (X:Cx) (pins:List (Addr×Obj)) (H:Hp) (b:Addr):Prop:=
 H b=none∧b≠X.env.locals∧b ∉ X.fs∧(b∈X.ex∨X.s_0.heap.objs.size≤b)∧(∀x c,X.env.cells.lookup x=some c→c≠b)∧∀p∈X.pn++pins,p.1≠b
theorem be.fpOk {X:Cx} {pins:List (Addr×Obj)} {σ:St} {H H':Hp} {s:Shared} {b:Addr} (I:be X pins σ H s) (hb:s.heap.objs.size≤b) (hn:H' b=none):AE X pins H' b:=by
 refine⟨hn,Nat.ne_of_gt (gR I.lt hb),I.nofs hb,.inr (fS I.sz hb),fun x c e z=>?_,fun p hp z=>?_⟩
 ·obtain⟨v,q⟩:=I.cell x c e
  exact absurd (gR q.lt (by rw [z];exact hb)) (sM _)
 ·exact absurd (gR (fo (I.pin p hp).1) (by rw [z];exact hb)) (sM _)
structure M8 (P:Program) (w:World) (K:PySem.W.Frag) (tg:Expr) (J:It) (fp:List Addr) (it:Addr) (tn:Nat→Heap→Prop):Prop where
 mem:it∈fp
 obj:∀i h,tn i h→∀b∈fp,∃o,h.get? b=some o∧∀v,o.data≠ .cell v
 keep:∀i h h',tn i h→(∀b∈fp,∀o,h.get? b=some o→h'.get? b=some o)→tn i h'
 item:∀(X:Cx),X.prog=P→X.w=w→X.K=K→X.calm=true→∀(i:Nat) (pins:List (Addr×Obj)) (s:Shared) (σ:St) (H:Hp) (E:Value→Shared→Prop),be X pins σ H s→(∀b∈fp,AE X pins H b)→tn i s.heap→J.go i H→
  wpAny (model P w) X.A (pyNext (.ref it)) (fun r s1=>∃u,r=some u∧
   wpAny (model P w) X.A (letOwnedTupleGo tg (.ref it) u) (fun _ s2=>∃x H',be X pins σ H' s2∧cZ x u∧J.yld i H x H'∧tn (i+1) s2.heap∧∀b∈fp,H' b=none) E s1) E s
 done:∀(X:Cx),X.prog=P→X.w=w→X.K=K→X.calm=true→∀(i:Nat) (pins:List (Addr×Obj)) (s:Shared) (σ:St) (H:Hp) (E:Value→Shared→Prop),be X pins σ H s→(∀b∈fp,AE X pins H b)→tn i s.heap→J.stop i H→
  wpAny (model P w) X.A (pyNext (.ref it)) (fun r s1=>r=none∧be X pins σ H s1) E s
 self:∀(A:Around) (i:Nat) (s:Shared) (Q:Value→Shared→Prop) (E:Value→Shared→Prop),tn i s.heap→Q (.ref it) s→wpAny (model P w) A (pyIter (.ref it)) Q E s
abbrev TI:=St→Hp→(It→Hp→Prop)→Prop
def Rh (X:Cx) (pins:List (Addr×Obj)) (σ:St) (tg:Expr) (R:It→Hp→Prop) (itv:Value) (s2:Shared):Prop:=
 ∃(it:Addr) (fp:List Addr) (tn:Nat→Heap→Prop) (J:It) (H':Hp),itv= .ref it∧be X pins σ H' s2∧M8 X.prog X.w X.K tg J fp it tn∧tn 0 s2.heap∧(∀b∈fp,AE X pins H' b)∧R J H'
def PI (X:Cx) (tg iter:Expr) (wi:TI):Prop:=
 ∀(pins:List (Addr×Obj)) (s:Shared) (σ:St) (H:Hp) (R:It→Hp→Prop),be X pins σ H s→wi σ H R→
  wpAny (model X.prog X.w) X.A (eval iter X.env) (fun v s1=>wpAny (model X.prog X.w) X.A (pyIter v) (Rh X pins σ tg R) X.xe s1) X.xe s
theorem N7 {M:Model} {A:Around} {E:Value→Shared→Prop} {s:Shared} {tg:Expr} {it:Addr} {u:Value} {o:Obj} {n:String} {vs:Array Value} {Q:Unit→Shared→Prop} (ho:s.heap.get? it=some o) (hc:o.cls= .type n) (hd:o.data= .fields vs)
  (hn: ["enumerate","zip","dict_itemiterator","dict_reverseitemiterator","odict_iterator","itertools.zip_longest","itertools.pairwise"].contains n=false) (hQ:Q ⟨⟩ s):wpAny M A (letOwnedTupleGo tg (.ref it) u) Q E s:=by
 unfold letOwnedTupleGo
 cases tg<;>first
  | exact dR hQ
  | (cases u<;>first
    | exact dR hQ
    | (refine bK (wpAny_load ho ?_)
       rw [hc,hd]
       show wpAny M A (if (["enumerate","zip","dict_itemiterator","dict_reverseitemiterator","odict_iterator","itertools.zip_longest","itertools.pairwise"].contains n && vs[0]?==some (rawInt _))=true then _ else _) Q E s
       rw [if_neg (by intro h;rw [hn,Bool.false_and] at h;cases h)]
       exact dR hQ))
def N2 (K:PySem.W.Frag) (a:Addr):It:=
 ⟨fun i H=>∃xs x,a5 K H a xs∧xs[i]?=some x,fun i H x H'=>H'=H∧∀xs,a5 K H a xs→xs[i]?=some x,fun i H=>∃xs,a5 K H a xs∧xs.length≤i⟩
def M4 (lo:Int) (n:Nat):It:=⟨fun i _=>i<n,fun i H x H'=>H'=H∧x= .int (lo+i),fun i _=>n≤i⟩
theorem Lh {P:Program} {w:World} {K:PySem.W.Frag} {tg:Expr} (a it:Addr):M8 P w K tg (N2 K a) [it] it (fun i h=>h.IsListIter it a i) where
 mem:=by simp
 obj:=fun i h st b hb=>by
  have e:b=it:=by simpa using hb
  subst e
  obtain⟨o,e,c,d⟩:=st
  exact⟨o,e,fun v z=>by rw [d] at z;cases z⟩
 keep:=fun i h h' st k=>st.at fun o e=>k it (by simp) o e
 item:=by
  intro X hP hw hK hc i pins s σ H E I hf st hg
  subst hP hw hK
  obtain⟨xs,x,hq,hx⟩:=hg
  obtain⟨its,rv,p,hz⟩:=I.list hq
  obtain⟨u,hu,ru⟩:=rv.get hx
  obtain⟨f0,f1,f2,f3,f4,f5⟩:=hf it (by simp)
  refine wpAny_pyNext_list_item st p.isList (x:=u) (by simpa using hu) fun h' st' sb=>?_
  have I1:be X pins σ H {s with heap:=h'}:=I.turned (t':=s.toks) (fun b o hb e=>(sb.2 b hb).trans e) f0 f1 f3 f4 f5
  obtain⟨o,e,c,d⟩:=id st'
  exact⟨u,rfl,N7 (s:={s with heap:=h'}) e c d () ⟨x,H,I1,ru,⟨rfl,fun ys hy=>by rw [I.list_inj hy hq];exact hx⟩,st',fun b hb=>(hf b hb).1⟩⟩
 done:=by
  intro X hP hw hK hc i pins s σ H E I hf st hg
  subst hP hw hK
  obtain⟨xs,hq,hx⟩:=hg
  obtain⟨its,rv,p,hz⟩:=I.list hq
  obtain⟨f0,f1,f2,f3,f4,f5⟩:=hf it (by simp)
  have hl:=rv.length
  exact wpAny_pyNext_list_end (I.ok.hd hc) st p.isList (by simp;omega) fun h' eb=>⟨rfl,I.turned (t':=s.toks) (fun b o hb e=>eb b o hb e) f0 f1 f3 f4 f5⟩
 self:=fun _ _ _ _ _ st h=>wpAny_pyIter_listiter st h
theorem IV {P:Program} {w:World} {K:PySem.W.Frag} {tg:Expr} (it:Addr) (lo:Int) (n:Nat):M8 P w K tg (M4 lo n) [it] it (fun i h=>IsRangeIter h it (lo+(i:Nat)*1) ((n:Int) - (i:Nat)) 1) where
 mem:=by simp
 obj:=fun i h st b hb=>by
  have e:b=it:=by simpa using hb
  subst e
  exact⟨_,st,fun v z=>by
   have z':Data.fields _=Data.cell v:=z
   cases z'⟩
 keep:=fun i h h' st k=>k it (by simp) _ st
 item:=by
  intro X hP hw hK hc i pins s σ H E I hf st hg
  subst hP hw hK
  obtain⟨f0,f1,f2,f3,f4,f5⟩:=hf it (by simp)
  have W:=Walks.range (prog:=X.prog) (w:=X.w) (I.ok.hd hc) it lo 1 n
  refine W.item i s _ _ hg st fun v h' tk hv st' kk=>?_
  obtain⟨t,rfl⟩:=hv
  have I1:be X pins σ H {s with heap:=h',toks:=tk}:=I.turned (fun b o hb e=>kk b o (by simpa using hb) e) f0 f1 f3 f4 f5
  refine⟨_,rfl,N7 (s:={s with heap:=h',toks:=tk}) (n:="range_iterator") st' rfl rfl () ⟨.int (lo+i),H,I1,⟨t,?_⟩,⟨rfl,rfl⟩,st',fun b hb=>(hf b hb).1⟩⟩
  rw [Int.mul_one]
 done:=by
  intro X hP hw hK hc i pins s σ H E I hf st hg
  subst hP hw hK
  obtain⟨f0,f1,f2,f3,f4,f5⟩:=hf it (by simp)
  exact wpAny_pyNext_range_end (I.ok.hd hc) st (by have:n≤i:=hg;omega) fun h' eb=>⟨rfl,I.turned (t':=s.toks) (fun b o hb e=>eb b o hb e) f0 f1 f3 f4 f5⟩
 self:=fun _ _ _ _ _ st h=>wpAny_pyIter_rangeiter st h
end L2
namespace L2
open PySem PySem.Spec PyProof.Rows
section
variable {X:Cx} {tg:Expr}
def Py (K:PySem.W.Frag) (tl:TE):TI:=fun σ H R=>tl σ H fun x H1=>∃a,x= .ref a∧(∃xs,a5 K H1 a xs)∧R (N2 K a) H1
theorem cF {l:Expr} {tl:TE} (hl:PE X l tl):PI X tg l (Py X.K tl):=by
 intro pins s σ H R I h
 refine eS (hl pins s σ H _ I h) fun v s1 ⟨x,H1,I1,r1,q1⟩=>?_
 obtain⟨a,e,⟨xs,hq⟩,q⟩:=q1
 subst e
 cases r1
 obtain⟨its,rv,p,hz⟩:=I1.list hq
 refine wpAny_pyIter_list p.isList ?_
 refine⟨s1.heap.objs.size,[s1.heap.objs.size],_,_,H1,rfl,I1.kept (t':=s1.toks) fun b o e=>i9 _ e,Lh a _,⟨_,vv _ rfl,rfl,rfl⟩,fun b hb=>?_,q⟩
 have e:b=s1.heap.objs.size:=by simpa using hb
 subst e
 exact I1.fpOk (bq _) (I1.hok.fresh (bq _))
theorem GQ {pins:List (Addr×Obj)} {σ:St} {H:Hp} {s:Shared} {R:It→Hp→Prop} {E:Value→Shared→Prop} {lo hi:Int} {t u v:Tok} {tk:Nat} (I:be X pins σ H s) (h1: -(2 ^ 62)≤lo) (h2:lo<2 ^ 62) (h3: -(2 ^ 62)≤hi) (h4:hi<2 ^ 62)
  (q:R (M4 lo (hi - lo).toNat) H):wpAny (model X.prog X.w) X.A (pyIter (.ref s.heap.objs.size)) (Rh X pins σ tg R) E {s with heap:=s.heap.push {cls:= .type "range",data:= .fields #[.int lo t,.int hi u,.int 1 v]},toks:=tk}:=by
 refine wpAny_pyIter_range (IsRange.new ..) (small_one h1 h2 h3 h4) ?_
 have I1:be X pins σ H {s with heap:=s.heap.push {cls:= .type "range",data:= .fields #[.int lo t,.int hi u,.int 1 v]},toks:=tk}:=I.kept fun b o e=>i9 _ e
 refine⟨(s.heap.push {cls:= .type "range",data:= .fields #[.int lo t,.int hi u,.int 1 v]}).objs.size,[(s.heap.push {cls:= .type "range",data:= .fields #[.int lo t,.int hi u,.int 1 v]}).objs.size],_,_,H,rfl,
  I1.kept (t':=tk) fun b o e=>i9 _ e,IV _ lo (hi - lo).toNat,?_,fun b hb=>?_,q⟩
 ·have e1:lo+((0:Nat):Int)*1=lo:=by simp
  have e2:(((hi - lo).toNat:Nat):Int) - ((0:Nat):Int)=Builtin.Range.rangeSize lo hi 1:=by rw [rangeSize_one];split<;>omega
  show IsRangeIter _ _ (lo+((0:Nat):Int)*1) ((((hi - lo).toNat:Nat):Int) - ((0:Nat):Int)) 1
  rw [e1,e2]
  exact vv _ rfl
 ·have e:b=(s.heap.push {cls:= .type "range",data:= .fields #[.int lo t,.int hi u,.int 1 v]}).objs.size:=by simpa using hb
  subst e
  exact I1.fpOk (bq _) (I1.hok.fresh (bq _))
def Pz (ta:TA):TI:=fun σ H R=>ta σ H fun vs H1=>∃j:Int,vs= [.int j]∧-(2 ^ 62)≤j∧j<2 ^ 62∧R (M4 0 j.toNat) H1
def PB (ta:TA):TI:=fun σ H R=>ta σ H fun vs H1=>∃i j:Int,vs= [.int i,.int j]∧(-(2 ^ 62)≤i∧i<2 ^ 62∧-(2 ^ 62)≤j∧j<2 ^ 62)∧R (M4 i (j - i).toNat) H1
theorem cu {a:Expr} {ta:TA} {p pos:Pos} (hg:Gl X "range") (hm:X.mg "range"=none) (ha:PA X [a] ta) (hs:starEach [a] X.env= [(false,eval a X.env)]:=by rfl):PI X tg (.Call (.Name "range" p) [a] [] pos) (Pz ta):=by
 intro pins s σ H R I h
 refine Call_ (v8 I hg hm boot_range (C2 (eS (ha pos pins s σ H _ I h) fun us s1 ⟨vs,H1,I1,r1,q1⟩=>?_) hs rfl))
 obtain⟨j,e,q1,q2,q⟩:=q1
 subst e
 cases r1 with
 | cons r rr=>
  cases rr
  obtain⟨t,rfl⟩:=r
  exact call_range_1 (GQ I1 ⋯ ⋯ q1 q2 (by simpa using q))
theorem KU {a b:Expr} {ta:TA} {p pos:Pos} (hg:Gl X "range") (hm:X.mg "range"=none) (ha:PA X [a,b] ta) (hs:starEach [a,b] X.env= [(false,eval a X.env),(false,eval b X.env)]:=by rfl) (hs2:starEach [b] X.env= [(false,eval b X.env)]:=by rfl):
  PI X tg (.Call (.Name "range" p) [a,b] [] pos) (PB ta):=by
 intro pins s σ H R I h
 refine Call_ (v8 I hg hm boot_range (C2 (eS (ha pos pins s σ H _ I h) fun us s1 ⟨vs,H1,I1,r1,q1⟩=>?_) (by rw [hs,hs2]) (by rw [hs2];rfl)))
 obtain⟨i,j,e,⟨q1,q2,q3,q4⟩,q⟩:=q1
 subst e
 cases r1 with
 | cons r rr=>
  cases rr with
  | cons r' rr=>
   cases rr
   obtain⟨t,rfl⟩:=r
   obtain⟨t',rfl⟩:=r'
   exact call_range_2 (GQ I1 q1 q2 q3 q4 q)
def Q7 (wi:TI) (g:TG) (tb:TS):TS:=fun D σ H=>wi σ H fun J H1=>∃W:Nat→Nat→St→Hp→Prop,(∃m,W 0 m σ H1)∧∀i m σ H,W i m σ H→
 (J.stop i H∧D.nx σ H)∨(J.go i H∧∃N:St→Hp→Prop,(∀σ' H',N σ' H'→∃m',m'<m∧W (i+1) m' σ' H')∧∀x H',J.yld i H x H'→g x σ H' fun σ2 H2=>tb {D with nx:=N,ct:=N,bk:=D.nx} σ2 H2)
def B4 (fp:List Addr) (h:Heap):List (Addr×Obj):=fp.filterMap fun b=>(h.get? b).map fun o=>(b,o)
theorem wd {fp:List Addr} {h:Heap} {b:Addr} {o:Obj} (hb:b∈fp) (e:h.get? b=some o):(b,o)∈B4 fp h:=List.mem_filterMap.mpr ⟨b,hb,by rw [e];rfl⟩
theorem KB {fp:List Addr} {h:Heap} {p:Addr×Obj} (hp:p∈B4 fp h):p.1∈fp∧h.get? p.1=some p.2:=by
 obtain⟨b,hb,e⟩:=List.mem_filterMap.mp hp
 cases q:h.get? b with
 | none=>rw [q] at e;cases e
 | some o=>
  rw [q] at e
  have e':(b,o)=p:=bG e
  subst e'
  exact⟨hb,q⟩
theorem be.pinned {pins:List (Addr×Obj)} {σ:St} {H:Hp} {s:Shared} {fp:List Addr} (I:be X pins σ H s) (hf:∀b∈fp,AE X pins H b) (ho:∀b∈fp,∃o,s.heap.get? b=some o∧∀v,o.data≠ .cell v):be X (pins++B4 fp s.heap) σ H s:=
 I.pins_of fun p hp=>(jT.mp hp).elim (fun z=>I.pin p (sK _ z)) fun z=>by
  obtain⟨hb,e⟩:=KB z
  obtain⟨f0,f1,f2,_⟩:=hf p.1 hb
  obtain⟨o,e',d⟩:=ho p.1 hb
  rw [e] at e';cases e'
  exact⟨e,f0,f1,f2,d⟩
theorem be.unpinned {pins pl:List (Addr×Obj)} {σ:St} {H:Hp} {s:Shared} (I:be X (pins++pl) σ H s):be X pins σ H s:=I.pins_of fun p hp=>I.pin p (sK _ (Db _ hp))
theorem eh {iter:Expr} {body:List Stmt} {wi:TI} {g:TG} {tb:TS} {pos:Pos} (hp:PassesOwn (model X.prog X.w) X.A X.env X.xe) (hc:X.calm=true) (hi:PI X tg iter wi) (hg:PG X tg g) (hb:HS X body tb)
  (hs:∀x,foldedSetIterable iter X.env x=pure x:=by intro _;rfl):PS X (.For tg iter body [] pos) (Q7 wi g tb):=by
 intro pins s σ H D I h
 refine wpAny_For (eS (hi pins s σ H _ I h) fun v s1 h1=>eS h1 fun itv s2 h2=>?_) hs
 obtain⟨it,fp,tn,J,H2,e,I2,T,st2,f2,W,⟨m0,w0⟩,turn⟩:=h2
 subst e
 have stat:∀{H':Hp},(∀b∈fp,H' b=none)→∀b∈fp,AE X pins H' b:=fun hn b hb=>⟨hn b hb,(f2 b hb).2⟩
 refine codeAny_forLoop_any (fun n s'=>∃i σ' H',be X pins σ' H' s'∧tn i s'.heap∧(∀b∈fp,H' b=none)∧W i n σ' H') ?_ m0 ⟨0,σ,H2,I2,st2,fun b hb=>(f2 b hb).1,w0⟩
 rintro n s3 ⟨i,σ3,H3,I3,st3,fr3,w3⟩
 rcases turn i n σ3 H3 w3 with⟨stop,qn⟩ | ⟨go,N,hN,step⟩
 ·refine wW hp (eS (T.done X rfl rfl rfl hc i pins s3 σ3 H3 X.xe I3 (stat fr3) st3 stop) fun r s4 ⟨hr,I4⟩=>?_)
  subst hr
  exact wpAny_execs_nil ⟨σ3,H3,I4,qn⟩
 ·refine wW hp (eS (T.item X rfl rfl rfl hc i pins s3 σ3 H3 X.xe I3 (stat fr3) st3 go) fun r s4 ⟨u,hr,h4⟩=>?_)
  subst hr
  refine wW hp (eS h4 fun _ s5 ⟨x,H5,I5,r5,y5,st5,fr5⟩=>?_)
  have I5':=I5.pinned (stat fr5) (T.obj _ _ st5)
  refine wW hp (eS (hg _ s5 σ3 H5 x u _ I5' r5 (step x H5 y5)) fun _ s6 ⟨σ6,H6,I6,q6⟩=>?_)
  refine wW hp (eS (hb _ s6 σ6 H6 _ I6 q6) fun f s7 q7=>?_)
  have again:∀{σ7:St} {H7:Hp},be X (pins++B4 fp s5.heap) σ7 H7 s7→N σ7 H7→∃m,m<n∧∃i σ' H',be X pins σ' H' s7∧tn i s7.heap∧(∀b∈fp,H' b=none)∧W i m σ' H':=fun {σ7 H7} I7 n7=>by
   obtain⟨m',hm,w7⟩:=hN σ7 H7 n7
   refine⟨m',hm,i+1,σ7,H7,I7.unpinned,T.keep _ _ _ st5 fun b hb o e=>(I7.pin (b,o) (sK _ (sK _ (wd hb e)))).1,fun b hb=>?_,w7⟩
   obtain⟨o,e,d⟩:=T.obj _ _ st5 b hb
   exact(I7.pin (b,o) (sK _ (sK _ (wd hb e)))).2.1
  cases f with
  | next=>obtain⟨σ7,H7,I7,n7⟩:=q7;exact again I7 n7
  | cont=>obtain⟨σ7,H7,I7,n7⟩:=q7;exact again I7 n7
  | brk=>obtain⟨σ7,H7,I7,q7⟩:=q7;exact⟨σ7,H7,I7.unpinned,q7⟩
  | ret v=>obtain⟨x7,σ7,H7,I7,r7,q7⟩:=q7;exact⟨x7,σ7,H7,I7.unpinned,r7,q7⟩
end
theorem eE {K:PySem.W.Frag} {a:Addr} {xs:List V} {g:TG} {tb:TS} {D:FV} {σ:St} {H:Hp} (Pv:Nat→St→Hp→Prop) (h0:Pv 0 σ H) (hl:∀i σ H,i≤xs.length→Pv i σ H→a5 K H a xs)
  (hs:∀i x σ H,xs[i]?=some x→Pv i σ H→g x σ H fun σ2 H2=>tb {D with nx:=Pv (i+1),ct:=Pv (i+1),bk:=D.nx} σ2 H2) (hd:∀σ H,Pv xs.length σ H→D.nx σ H):
  ∃W:Nat→Nat→St→Hp→Prop,(∃m,W 0 m σ H)∧∀i m σ H,W i m σ H→
   ((N2 K a).stop i H∧D.nx σ H)∨((N2 K a).go i H∧∃N:St→Hp→Prop,(∀σ' H',N σ' H'→∃m',m'<m∧W (i+1) m' σ' H')∧∀x H',(N2 K a).yld i H x H'→g x σ H' fun σ2 H2=>tb {D with nx:=N,ct:=N,bk:=D.nx} σ2 H2):=by
 refine⟨fun i m σ H=>m=xs.length - i∧i≤xs.length∧Pv i σ H,⟨xs.length,by simp,bo _,h0⟩,?_⟩
 rintro i m σ H ⟨rfl,hi,p⟩
 have q:=hl i σ H hi p
 by_cases hlt:i<xs.length
 ·refine .inr ⟨⟨xs,xs[i],q,by simp [hlt]⟩,Pv (i+1),fun σ' H' p'=>⟨xs.length - (i+1),⋯,rfl,hlt,p'⟩,fun x H' y=>?_⟩
  obtain⟨e,y⟩:=y
  subst e
  exact hs i x σ _ (y xs q) p
 ·have e:i=xs.length:=by omega
  subst e
  exact .inl ⟨⟨xs,q,bq _⟩,hd σ H p⟩
theorem gY {lo:Int} {n:Nat} {g:TG} {tb:TS} {D:FV} {σ:St} {H:Hp} (Pv:Nat→St→Hp→Prop) (h0:Pv 0 σ H)
  (hs:∀i σ H,i<n→Pv i σ H→g (.int (lo+i)) σ H fun σ2 H2=>tb {D with nx:=Pv (i+1),ct:=Pv (i+1),bk:=D.nx} σ2 H2) (hd:∀σ H,Pv n σ H→D.nx σ H):
  ∃W:Nat→Nat→St→Hp→Prop,(∃m,W 0 m σ H)∧∀i m σ H,W i m σ H→
   ((M4 lo n).stop i H∧D.nx σ H)∨((M4 lo n).go i H∧∃N:St→Hp→Prop,(∀σ' H',N σ' H'→∃m',m'<m∧W (i+1) m' σ' H')∧∀x H',(M4 lo n).yld i H x H'→g x σ H' fun σ2 H2=>tb {D with nx:=N,ct:=N,bk:=D.nx} σ2 H2):=by
 refine⟨fun i m σ H=>m=n - i∧i≤n∧Pv i σ H,⟨n,by simp,bo _,h0⟩,?_⟩
 rintro i m σ H ⟨rfl,hi,p⟩
 by_cases hlt:i<n
 ·refine .inr ⟨hlt,Pv (i+1),fun σ' H' p'=>⟨n - (i+1),⋯,rfl,hlt,p'⟩,fun x H' y=>?_⟩
  obtain⟨e,y⟩:=y
  subst e y
  exact hs i σ _ hlt p
 ·have e:i=n:=by omega
  subst e
  exact .inl ⟨bq _,hd σ H p⟩
end L2
namespace L2
open PySem PySem.Spec PyProof.Rows
abbrev R2:=V→V→Hp→VK→Prop
def By (X:Cx) (f:Value→Value→Sem Value) (r:R2):Prop:=
 ∀(pins:List (Addr×Obj)) (s:Shared) (σ:St) (H:Hp) (x y:V) (v u:Value) (Q:VK),be X pins σ H s→cZ x v→cZ y u→r x y H Q→
  wpAny (model X.prog X.w) X.A (f v u) (EP X pins σ Q) X.xe s
def Qz (X:Cx) (f:Value→Sem Value) (r:V→Hp→VK→Prop):Prop:=
 ∀(pins:List (Addr×Obj)) (s:Shared) (σ:St) (H:Hp) (x:V) (v:Value) (Q:VK),be X pins σ H s→cZ x v→r x H Q→
  wpAny (model X.prog X.w) X.A (f v) (EP X pins σ Q) X.xe s
def rR (X:Cx) (f:Value) (r:List V→Hp→VK→Prop):Prop:=
 ∀(pins:List (Addr×Obj)) (s:Shared) (σ:St) (H:Hp) (xs:List V) (us:List Value) (Q:VK),be X pins σ H s→bO xs us→r xs H Q→
  wpAny (model X.prog X.w) X.A (call f us) (EP X pins σ Q) X.xe s
def Qg (r:R2) (ta tb:TE):TE:=fun σ H Q=>ta σ H fun x H1=>tb σ H1 fun y H2=>r x y H2 Q
def RC (r:V→Hp→VK→Prop) (ta:TE):TE:=fun σ H Q=>ta σ H fun x H1=>r x H1 Q
def rI (C:Int→Int→Prop) (g:Int→Int→V):R2:=fun x y H Q=>∃i j,x= .int i∧y= .int j∧C i j∧Q (g i j) H
def NL (g:Int→Int→V):R2:=fun x y H Q=>∃i j,x= .int i∧y= .int j∧Q (g i j) H
def rU (g:Int→V):V→Hp→VK→Prop:=fun x H Q=>∃i,x= .int i∧Q (g i) H
section
variable {X:Cx} {a b c:Expr} {ta tb tc:TE} {pos:Pos}
theorem Ov (ha:PE X a ta) (hb:PE X b tb) {pins:List (Addr×Obj)} {s:Shared} {σ:St} {H:Hp} {R:V→V→Hp→Prop} (I:be X pins σ H s)
  (h:ta σ H fun x H1=>tb σ H1 fun y H2=>R x y H2) {Q:Value→Shared→Prop} {f:Value→Value→Sem Value}
  (hf:∀v u s2 x y H2,be X pins σ H2 s2→cZ x v→cZ y u→R x y H2→wpAny (model X.prog X.w) X.A (f v u) Q X.xe s2):
  wpAny (model X.prog X.w) X.A (eval a X.env) (fun v s₁=>wpAny (model X.prog X.w) X.A (eval b X.env) (fun u s₂=>wpAny (model X.prog X.w) X.A (f v u) Q X.xe s₂) X.xe s₁) X.xe s:=by
 refine eS (ha pins s σ H _ I h) fun v s1 ⟨x,H1,I1,r1,q1⟩=>?_
 refine eS (hb pins s1 σ H1 _ I1 q1) fun u s2 ⟨y,H2,I2,r2,q2⟩=>?_
 exact hf v u s2 x y H2 I2 r1 r2 q2
theorem aB {op:Operator} {r:R2} (ho:By X (binaryOp op) r) (ha:PE X a ta) (hb:PE X b tb):PE X (.BinOp a op b pos) (Qg r ta tb):=by
 intro pins s σ H Q I h
 exact wpAny_BinOp (Ov ha hb I h fun v u s2 x y H2 I2 rx ry q=>ho pins s2 σ H2 x y v u Q I2 rx ry q)
theorem JJ {op:UnaryOp} {r:V→Hp→VK→Prop} (ho:Qz X (unaryOp op) r) (ha:PE X a ta):PE X (.UnaryOp op a pos) (RC r ta):=by
 intro pins s σ H Q I h
 exact UnaryOp_ (eS (ha pins s σ H _ I h) fun v s1 ⟨x,H1,I1,r1,q1⟩=>ho pins s1 σ H1 x v Q I1 r1 q1)
theorem QP {f:Value→Value→Sem Value} {C:Int→Int→Prop} {g:Int→Int→Int}
  (rule:∀(i j:Int) (t u:Tok) (s:Shared) (Q:Value→Shared→Prop) (E:Value→Shared→Prop),C i j→Q (.int (g i j) s.toks) {s with toks:=s.toks+1}→wpAny (model X.prog X.w) X.A (f (.int i t) (.int j u)) Q E s):
  By X f (rI C fun i j=> .int (g i j)):=by
 intro pins s σ H x y v u Q I rx ry h
 obtain⟨i,j,rfl,rfl,hc,q⟩:=h
 obtain⟨t,rfl⟩:=rx
 obtain⟨t',rfl⟩:=ry
 exact rule i j t t' s _ _ hc ⟨.int (g i j),H,I.tok _,⟨_,rfl⟩,q⟩
theorem OP {f:Value→Value→Sem Value} {g:Int→Int→Int}
  (rule:∀(i j:Int) (t u:Tok) (s:Shared) (Q:Value→Shared→Prop) (E:Value→Shared→Prop),Q (.int (g i j) s.toks) {s with toks:=s.toks+1}→wpAny (model X.prog X.w) X.A (f (.int i t) (.int j u)) Q E s):
  By X f (NL fun i j=> .int (g i j)):=by
 intro pins s σ H x y v u Q I rx ry h
 obtain⟨i,j,rfl,rfl,q⟩:=h
 obtain⟨t,rfl⟩:=rx
 obtain⟨t',rfl⟩:=ry
 exact rule i j t t' s _ _ ⟨.int (g i j),H,I.tok _,⟨_,rfl⟩,q⟩
theorem Nz {f:Value→Value→Sem Value} {g:Int→Int→Bool}
  (rule:∀(i j:Int) (t u:Tok) (s:Shared) (Q:Value→Shared→Prop) (E:Value→Shared→Prop),Q (.bool (g i j)) s→wpAny (model X.prog X.w) X.A (f (.int i t) (.int j u)) Q E s):
  By X f (NL fun i j=> .bl (g i j)):=by
 intro pins s σ H x y v u Q I rx ry h
 obtain⟨i,j,rfl,rfl,q⟩:=h
 obtain⟨t,rfl⟩:=rx
 obtain⟨t',rfl⟩:=ry
 exact rule i j t t' s _ _ ⟨.bl (g i j),H,I,rfl,q⟩
theorem b7:By X (binaryOp .Add) (NL fun i j=> .int (i+j)):=OP fun _ _ _ _ _ _ _ q=>add_int q
theorem cb:By X (binaryOp .Sub) (NL fun i j=> .int (i - j)):=OP fun _ _ _ _ _ _ _ q=>sub_int q
theorem wn:By X (binaryOp .Mod) (rI (fun _ j=>0<j) fun i j=> .int (i%j)):=QP fun i j _ _ _ _ _ hc q=>by
 have h1:(0:Int)<j:=hc
 exact mod_int' ⋯ (by rw [Int.fmod_eq_emod_of_nonneg i ⋯];exact q)
theorem Mg:By X (binaryOp .BitAnd) (NL fun i j=> .int (Builtin.bitAnd i j)):=OP fun _ _ _ _ _ _ _ q=>and_int q
theorem RD {f:Value→Sem Value} {g:Int→Int}
  (rule:∀(i:Int) (t:Tok) (s:Shared) (Q:Value→Shared→Prop) (E:Value→Shared→Prop),Q (.int (g i) s.toks) {s with toks:=s.toks+1}→wpAny (model X.prog X.w) X.A (f (.int i t)) Q E s):
  Qz X f (rU fun i=> .int (g i)):=by
 intro pins s σ H x v Q I rx h
 obtain⟨i,rfl,q⟩:=h
 obtain⟨t,rfl⟩:=rx
 exact rule i t s _ _ ⟨.int (g i),H,I.tok _,⟨_,rfl⟩,q⟩
theorem FH:Qz X (unaryOp .USub) (rU fun i=> .int (-i)):=RD fun _ _ _ _ _ q=>neg_int q
end
def P1:V→V→Bool
 | .non,.non=>true | .non,.int _=>true | .int _,.non=>true | .non,.bl _=>true | .bl _,.non=>true | .non,.str _=>true | .str _,.non=>true
 | .int _,.int _=>true | .bl _,.bl _=>true | .str _,.str _=>true | .byt _,.byt _=>true
 | .int _,.str _=>true | .str _,.int _=>true | .bl _,.str _=>true | .str _,.bl _=>true
 | _,_=>false
def Rw:R2:=fun x y H Q=>P1 x y=true∧Q (.bl (decide (x=y))) H
def Rx:R2:=fun x y H Q=>P1 x y=true∧Q (.bl (!decide (x=y))) H
theorem Jn {i j:Int}:decide (V.int i=V.int j)=(i==j):=by
 rw [Bool.eq_iff_iff]
 simp
theorem LF {i j:Bool}:decide (V.bl i=V.bl j)=(i==j):=by
 rw [Bool.eq_iff_iff]
 simp
theorem Jo {i j:Str}:decide (V.str i=V.str j)=(i==j):=by
 rw [Bool.eq_iff_iff]
 simp
theorem Jm {i j:Array UInt8}:decide (V.byt i=V.byt j)=(i.toList==j.toList):=by
 rw [Bool.eq_iff_iff]
 cases i
 cases j
 simp
section
variable {X:Cx} {a b c:Expr} {ta tb tc:TE} {pos:Pos}
theorem cS {pins:List (Addr×Obj)} {σ:St} {H:Hp} {s:Shared} {Q:VK} {k k':Bool} (I:be X pins σ H s) (q:Q (.bl k) H) (e:k=k'):EP X pins σ Q (.bool k') s:=by
 subst e
 exact⟨.bl k,H,I,rfl,q⟩
theorem rY:By X (compareOp .Eq) Rw:=by
 intro pins s σ H x y v u Q I rx ry h
 obtain⟨hs,q⟩:=h
 cases x with
 | non=>
  cases rx
  cases y with
  | non=>cases ry;exact PySem.EqNone.eq_none_none (cS I q (by simp))
  | bl j=>cases ry;exact PySem.EqNone.eq_none_bool (cS I q (by simp))
  | int j=>obtain⟨t',rfl⟩:=ry;exact PySem.EqNone.eq_none_int (cS I q (by simp))
  | str j=>obtain⟨t',rfl⟩:=ry;exact PySem.EqNone.eq_none_str (cS I q (by simp))
  | _=>exact absurd (show false=true from hs) uI
 | bl i=>
  cases rx
  cases y with
  | non=>cases ry;exact PySem.EqNone.eq_bool_none (cS I q (by simp))
  | bl j=>cases ry;exact eq_bool (cS I q LF)
  | str j=>obtain⟨t',rfl⟩:=ry;exact PySem.EqMixed.eq_bool_str (cS I q (by simp))
  | _=>exact absurd (show false=true from hs) uI
 | int i=>
  obtain⟨t,rfl⟩:=rx
  cases y with
  | non=>cases ry;exact PySem.EqNone.eq_int_none (cS I q (by simp))
  | int j=>obtain⟨t',rfl⟩:=ry;exact eq_int (cS I q Jn)
  | str j=>obtain⟨t',rfl⟩:=ry;exact PySem.EqMixed.eq_int_str (cS I q (by simp))
  | _=>exact absurd (show false=true from hs) uI
 | str i=>
  obtain⟨t,rfl⟩:=rx
  cases y with
  | non=>cases ry;exact PySem.EqNone.eq_str_none (cS I q (by simp))
  | bl j=>cases ry;exact PySem.EqMixed.eq_str_bool (cS I q (by simp))
  | int j=>obtain⟨t',rfl⟩:=ry;exact PySem.EqMixed.eq_str_int (cS I q (by simp))
  | str j=>obtain⟨t',rfl⟩:=ry;exact eq_str (cS I q Jo)
  | _=>exact absurd (show false=true from hs) uI
 | byt i=>
  obtain⟨t,rfl⟩:=rx
  cases y with
  | byt j=>obtain⟨t',rfl⟩:=ry;exact PySem.W.eq_bytes (cS I q Jm)
  | _=>exact absurd (show false=true from hs) uI
 | _=>cases y<;>exact absurd (show false=true from hs) uI
theorem JH:By X (compareOp .NotEq) Rx:=by
 intro pins s σ H x y v u Q I rx ry h
 obtain⟨hs,q⟩:=h
 cases x with
 | non=>
  cases rx
  cases y with
  | non=>cases ry;exact PySem.EqNone.ne_none_none (cS I q (by simp))
  | bl j=>cases ry;exact PySem.EqNone.ne_none_bool (cS I q (by simp))
  | int j=>obtain⟨t',rfl⟩:=ry;exact PySem.EqNone.ne_none_int (cS I q (by simp))
  | str j=>obtain⟨t',rfl⟩:=ry;exact PySem.EqNone.ne_none_str (cS I q (by simp))
  | _=>exact absurd (show false=true from hs) uI
 | bl i=>
  cases rx
  cases y with
  | non=>cases ry;exact PySem.EqNone.ne_bool_none (cS I q (by simp))
  | bl j=>cases ry;exact ne_bool (cS I q (cA not LF))
  | str j=>obtain⟨t',rfl⟩:=ry;exact PySem.EqMixed.ne_bool_str (cS I q (by simp))
  | _=>exact absurd (show false=true from hs) uI
 | int i=>
  obtain⟨t,rfl⟩:=rx
  cases y with
  | non=>cases ry;exact PySem.EqNone.ne_int_none (cS I q (by simp))
  | int j=>obtain⟨t',rfl⟩:=ry;exact ne_int (cS I q (cA not Jn))
  | str j=>obtain⟨t',rfl⟩:=ry;exact PySem.EqMixed.ne_int_str (cS I q (by simp))
  | _=>exact absurd (show false=true from hs) uI
 | str i=>
  obtain⟨t,rfl⟩:=rx
  cases y with
  | non=>cases ry;exact PySem.EqNone.ne_str_none (cS I q (by simp))
  | bl j=>cases ry;exact PySem.EqMixed.ne_str_bool (cS I q (by simp))
  | int j=>obtain⟨t',rfl⟩:=ry;exact PySem.EqMixed.ne_str_int (cS I q (by simp))
  | str j=>obtain⟨t',rfl⟩:=ry;exact ne_str (cS I q (cA not Jo))
  | _=>exact absurd (show false=true from hs) uI
 | byt i=>
  obtain⟨t,rfl⟩:=rx
  cases y with
  | byt j=>obtain⟨t',rfl⟩:=ry;exact PySem.W.ne_bytes (cS I q (cA not Jm))
  | _=>exact absurd (show false=true from hs) uI
 | _=>cases y<;>exact absurd (show false=true from hs) uI
theorem ll:By X (compareOp .Lt) (NL fun i j=> .bl (decide (i<j))):=Nz fun _ _ _ _ _ _ _ q=>lt_int q
theorem Oc:By X (compareOp .LtE) (NL fun i j=> .bl (decide (i≤j))):=Nz fun _ _ _ _ _ _ _ q=>le_int q
theorem vD:By X (compareOp .Gt) (NL fun i j=> .bl (decide (j<i))):=Nz fun _ _ _ _ _ _ _ q=>gt_int q
theorem JG:By X (compareOp .GtE) (NL fun i j=> .bl (decide (j≤i))):=Nz fun _ _ _ _ _ _ _ q=>ge_int q
theorem kH:By X (compareOp .Is) (fun x y H Q=>y= .non∧Q (.bl (decide (x= .non))) H):=by
 intro pins s σ H x y v u Q I rx ry h
 obtain⟨rfl,q⟩:=h
 cases ry
 refine is_none_gen (cS I q ?_)
 cases x<;>first
  | (cases rx;rfl)
  | (obtain⟨t,rfl⟩:=rx;rfl)
theorem aY (b:Expr) {op:CmpOp} (h:op≠ .In:=by decide) (h2:op≠ .NotIn:=by decide):behindInMarks op b=false:=by
 have e1:(op==CmpOp.In)=false:=by cases op<;>first | rfl | exact absurd rfl h
 have e2:(op==CmpOp.NotIn)=false:=by cases op<;>first | rfl | exact absurd rfl h2
 cases b<;>simp [behindInMarks,e1,e2]
theorem Fc {op:CmpOp} {r:R2} (ho:By X (compareOp op) r) (ha:PE X a ta) (hb:PE X b tb) (hm:behindInMarks op b=false):PE X (.Compare a [op] [b] pos) (Qg r ta tb):=by
 intro pins s σ H Q I h
 exact wpAny_Compare1 (Ov ha hb I h fun v u s2 x y H2 I2 rx ry q=>ho pins s2 σ H2 x y v u Q I2 rx ry q) hm
def Qj (t:TE):TT:=fun σ H Q=>t σ H fun x H'=>∃k,x= .bl k∧Q k H'
theorem aR {op:CmpOp} {r:R2} (ho:By X (compareOp op) r) (ha:PE X a ta) (hb:PE X b tb) (hm:behindInMarks op b=false):PT X (.Compare a [op] [b] pos) (Qj (Qg r ta tb)):=by
 intro pins s σ H Q I h
 refine wpAny_isTrue_Compare1 (eS (ha pins s σ H _ I h) fun v s1 ⟨x,H1,I1,r1,q1⟩=>eS (hb pins s1 σ H1 _ I1 q1) fun u s2 ⟨y,H2,I2,r2,q2⟩=>
  eS (ho pins s2 σ H2 x y v u _ I2 r1 r2 q2) fun c s3 ⟨z,H3,I3,r3,k,e,q3⟩=>?_) hm
 subst e
 cases r3
 exact wX ⟨H3,I3,q3⟩
def O7 (r r':R2) (ta tb tc:TE):TE:=fun σ H Q=>ta σ H fun x H1=>tb σ H1 fun y H2=>r x y H2 fun z H3=>∃k,z= .bl k∧
 (if k=true then tc σ H3 fun w' H4=>r' y w' H4 Q else Q (.bl false) H3)
theorem Mn {op op':CmpOp} {r r':R2} (ho:By X (compareOp op) r) (ho':By X (compareOp op') r') (ha:PE X a ta) (hb:PE X b tb) (hc:PE X c tc)
  (hm:lastMarks [op,op'] [b,c]=false:=by with_unfolding_all rfl):PE X (.Compare a [op,op'] [b,c] pos) (O7 r r' ta tb tc):=by
 intro pins s σ H Q I h
 refine Compare_chain (eS (ha pins s σ H _ I h) fun v s1 ⟨x,H1,I1,r1,q1⟩=>chain_link (eS (hb pins s1 σ H1 _ I1 q1) fun u s2 ⟨y,H2,I2,r2,q2⟩=>
  eS (ho pins s2 σ H2 x y v u _ I2 r1 r2 q2) fun d s3 ⟨z,H3,I3,r3,k,e,q3⟩=>?_)) hm
 subst e
 cases r3
 refine wX ?_
 cases k with
 | false=>exact ite_ff ⟨.bl false,H3,I3,rfl,q3⟩
 | true=>exact ite_tt (chain_last (eS (hc pins s3 σ H3 _ I3 q3) fun w' s4 ⟨z',H4,I4,r4,q4⟩=>ho' pins s4 σ H4 y z' u w' Q I4 r2 r4 q4))
theorem BN:(sizeLine:Nat)<2 ^ 63:=by rw [sizeLine_eq];decide
theorem JW {x:V} {us:List Value} (r:bO [x] us):∃u,us= [u]∧cZ x u:=by
 cases r with
 | cons r1 r2=>cases r2;exact⟨_,rfl,r1⟩
theorem Og {x y:V} {us:List Value} (r:bO [x,y] us):∃u w',us= [u,w']∧cZ x u∧cZ y w':=by
 cases r with
 | cons r1 r2=>
  cases r2 with
  | cons r3 r4=>cases r4;exact⟨_,_,rfl,r1,r3⟩
theorem F0:rR X (.builtin "abs") (fun xs H Q=>∃i,xs= [.int i]∧Q (.int (if i<0 then -i else i)) H):=by
 intro pins s σ H xs us Q I r h
 obtain⟨i,rfl,q⟩:=h
 obtain⟨u,rfl,t,rfl⟩:=JW r
 exact call_abs_int fun u tk=>⟨.int (if i<0 then -i else i),H,I.tok _,⟨_,rfl⟩,q⟩
theorem Kb (hc:X.calm=true):rR X (.builtin "max") (fun xs H Q=>∃i j,xs= [.int i,.int j]∧Q (.int (if j>i then j else i)) H):=by
 intro pins s σ H xs us Q I r h
 obtain⟨i,j,rfl,q⟩:=h
 obtain⟨u,w',rfl,⟨t,rfl⟩,⟨t',rfl⟩⟩:=Og r
 refine max_two_ints (I.ok.hd hc) fun h' tk k=>⟨_,H,I.kept k,?_,q⟩
 by_cases hj:j>i
 ·rw [if_pos hj,if_pos hj];exact⟨_,rfl⟩
 ·rw [if_neg hj,if_neg hj];exact⟨_,rfl⟩
theorem D4 (hc:X.calm=true):rR X (.builtin "min") (fun xs H Q=>∃i j,xs= [.int i,.int j]∧Q (.int (if j<i then j else i)) H):=by
 intro pins s σ H xs us Q I r h
 obtain⟨i,j,rfl,q⟩:=h
 obtain⟨u,w',rfl,⟨t,rfl⟩,⟨t',rfl⟩⟩:=Og r
 refine min_two_ints (I.ok.hd hc) fun h' tk k=>⟨_,H,I.kept k,?_,q⟩
 by_cases hj:j<i
 ·rw [if_pos hj,if_pos hj];exact⟨_,rfl⟩
 ·rw [if_neg hj,if_neg hj];exact⟨_,rfl⟩
end
end L2
namespace L2
open PySem PySem.Spec PyProof.Rows
structure HW (h:Heap) (x dx C:Addr) (mA:Str→Option Value):Prop where
 obj:h.get? x=some (PySem.W.instObj C dx)
 ns:h.Ns1 dx mA
 ne:dx≠x
theorem Kz {h:Heap} {dx:Addr} {mA:Str→Option Value} (n:h.Ns1 dx mA):∃od,h.get? dx=some od∧∀name,PySem.W.lookIn name od=some (mA name):=by
 obtain⟨o,es,ep,ho,hd,hk,_,hm⟩:=n
 refine⟨o,ho,fun name=>?_⟩
 have e:=hm name
 unfold nsFind findBy at e
 rw [←Array.find?_toList] at e
 unfold PySem.W.lookIn
 rw [hd]
 dsimp only
 split
 ·rename_i y q
  rw [q] at e
  exact cA some e
 ·rename_i q
  rw [q] at e
  have a:es.toList.any (·.refKey)=false:=by
   rw [List.any_eq_false]
   intro y hy
   obtain⟨z,t,hkey⟩:=hk y (Array.mem_toList_iff.mp hy)
   simp [DictEntry.refKey,hkey]
  have a':¬es.toList.any (·.refKey)=true:=by rw [a];exact uI
  rw [if_neg a']
  exact cA some e
theorem HW.look {h:Heap} {x dx C:Addr} {mA:Str→Option Value} (I:HW h x dx C mA):∃od,PySem.W.InstAt h x (PySem.W.instObj C dx) C (some od)∧∀name,PySem.W.lookIn name od=some (mA name):=
 let ⟨od,ho,hl⟩:=Kz I.ns
 ⟨od,⟨I.obj,rfl,rfl,ho⟩,hl⟩
section
variable {prog:Program} {w:World} {A:Around} {E:Value→Shared→Prop} {s:Shared} {K:PySem.W.Frag} {x dx C f:Addr} {mA:Str→Option Value} {name:Str} {v:Value}
theorem Jr {expr:Bool} {Q:Value→Shared→Prop} (X:K.In s.heap) (I:HW s.heap x dx C mA) (hg:PySem.W.plainGet K C name=true) (hh:PySem.W.hasDictIn K C=true)
  (ha:PySem.W.findIn K (.ref C) name=some none) (hv:mA name=some v) (hv':PySem.W.handedIn v=true) (h:Q v {s with toks:=s.toks+1}):
  wpAny (model prog w) A (getAttr (.ref x) name expr) Q E s:=by
 obtain⟨od,J,hl⟩:=I.look
 exact PySem.W.get_value X J (PySem.W.plainGet_of hg).1 (PySem.W.findObj_own hh ha rfl (by rw [hl,hv])) hv' h
theorem LN {pl:Sem Bool} {Q:Value×List Value→Shared→Prop} (X:K.In s.heap) (I:HW s.heap x dx C mA) (hg:PySem.W.plainGet K C name=true)
  (hf:PySem.W.findIn K (.ref C) name=some (some (.ref f))) (ht:PySem.W.isFn K (.ref f)=true) (hv:mA name=none) (h:Q (.ref f,[.ref x]) s):
  wpAny (model prog w) A (getMethod (.ref x) name pl) Q E s:=by
 obtain⟨od,J,hl⟩:=I.look
 exact PySem.W.method_fn X J (PySem.W.plainGet_of hg).1 (PySem.W.plainGet_of hg).2 hf (beq_iff_eq.mp ht) (by show(PySem.W.lookIn name od).map (·.isSome)=some false;rw [hl,hv];rfl) h
theorem NO {ns:List Str} {Q:Unit→Shared→Prop} (X:K.In s.heap) (I:HW s.heap x dx C mA)
  (hs:PySem.W.findIn K (.ref C) "__setattr__"=some (some (.builtin "object.__setattr__"))) (hp:PySem.W.plainOver K C=true) (ht:PySem.W.takerIn K C name=some none) (hh:PySem.W.hasDictIn K C=true)
  (hw:PySem.Within mA ns) (hsz:ns.length≤sizeLine)
  (h:∀h',HW h' x dx C (fun y=>if y=name then some v else mA y)→Heap.SameBut dx s.heap h'→Q ⟨⟩ {s with heap:=h',toks:=s.toks+2}):
  wpAny (model prog w) A (setAttr (.ref x) name v) Q E s:=by
 obtain⟨od,J,hl⟩:=I.look
 refine PySem.W.set_plain X J hs (PySem.W.osa_open (s:={s with toks:=s.toks+1}) (r:=none) X J hp ht fun b=>?_)
 obtain⟨cd,hc,hd'⟩:=PySem.W.any_some hh
 have hx:s.heap.get? x=some ⟨.ref C,some dx,.plain,#[]⟩:=I.obj
 refine bK (dR (bK (bK (wpAny_loadPart hx (bK (PySem.W.Looks.here (s:={s with toks:=s.toks+1}) (PySem.W.looks_clsIn X hc) ?_))))))
 rw [hd']
 refine dR (a:=some dx) (bK (dR (bK ?_)))
 refine wpAny_nsSet1 (s:={s with toks:=s.toks+1}) I.ns fun h' hn2 hs2=>?_
 obtain⟨oD,esD,epD,hoD,hdD,hcD⟩:=hn2.count (PySem.Within.cons name v hw)
 refine bK (wpAny_lookBehind hoD (by rw [hdD];exact pastItsLine_dict (fS hcD (by rw [d8];omega))) ?_)
 exact dR (h _ ⟨(hs2.2 _ (Ne.symm I.ne)).trans I.obj,hn2,I.ne⟩ hs2)
theorem L0 {R:Result→Shared→Prop} {vs:List Value} {kw:List (Str×Value)} (X:K.In s.heap) (hm:PySem.W.makesIn K C=true)
  (hi:PySem.W.findIn K (.ref C) "__init__"=some (some (.ref f))) (hf:PySem.W.typeIn K (.ref f)=some (.type "function"))
  (h:codeAny (model prog w) (A.under (.builtin "type.__call__" ⟨.ref C::vs,kw⟩)) (.call (.ref f) ⟨.ref (s.heap.objs.size+1)::vs,kw⟩) (PySem.W.InitBack (s.heap.objs.size+1) R)
   {s with heap:=(s.heap.push PySem.W.emptyDict).push (PySem.W.instObj C s.heap.objs.size)}):
  codeAny (model prog w) A (.call (.ref C) ⟨vs,kw⟩) R s:=by
 obtain⟨hh,g,d,t,os⟩:=s
 exact PySem.W.make_core (PySem.W.makes_of X hm) (PySem.W.looks_findIn X hi) (fun self=>PySem.W.bind_fn X self hf) (.inl rfl) h
end
def lu (f:Str) (v:V):List (Str×V)→List (Str×V)
 | []=> [(f,v)]
 | (g,x)::r=>if g=f then(g,v)::r else(g,x)::lu f v r
theorem z9 (f g:Str) (v:V):∀fs:List (Str×V),(lu f v fs).lookup g=if g=f then some v else fs.lookup g
 | []=>by
  show List.lookup g [(f,v)]=_
  by_cases h:g=f
  ·have hb:(g==f)=true:=beq_iff_eq.mpr h
   simp only [List.lookup,hb,if_pos h]
  ·have hb:(g==f)=false:=beq_eq_false_iff_ne.mpr h
   simp only [List.lookup,hb,if_neg h]
 | (k,x)::r=>by
  have ih:=z9 f g v r
  rw [show lu f v ((k,x)::r)=(if k=f then(k,v)::r else(k,x)::lu f v r) from rfl]
  by_cases hk:k=f
  ·rw [if_pos hk]
   by_cases h:g=k
   ·have hb:(g==k)=true:=beq_iff_eq.mpr h
    simp only [List.lookup,hb,if_pos (h.trans hk)]
   ·have hb:(g==k)=false:=beq_eq_false_iff_ne.mpr h
    simp only [List.lookup,hb,if_neg (fun e:g=f=>h (e.trans hk.symm))]
  ·rw [if_neg hk]
   by_cases h:g=k
   ·have hb:(g==k)=true:=beq_iff_eq.mpr h
    simp only [List.lookup,hb,if_neg (fun e:g=f=>hk (h.symm.trans e))]
   ·have hb:(g==k)=false:=beq_eq_false_iff_ne.mpr h
    simp only [List.lookup,hb]
    exact ih
theorem yL (f:Str) (v:V):∀fs:List (Str×V),f∈(lu f v fs).map (·.1)∧∀g,g∈fs.map (·.1)→g∈(lu f v fs).map (·.1)
 | []=>⟨by simp [lu],fun g h=>by simp at h⟩
 | (k,x)::r=>by
  obtain⟨i1,i2⟩:=yL f v r
  rw [show lu f v ((k,x)::r)=(if k=f then(k,v)::r else(k,x)::lu f v r) from rfl]
  by_cases hk:k=f
  ·rw [if_pos hk]
   subst hk
   exact⟨by simp,fun g h=>by simpa using h⟩
  ·rw [if_neg hk]
   refine⟨?_,fun g h=>?_⟩
   ·rw [e9]
    exact dX _ i1
   ·rw [e9] at h⊢
    rcases cH.mp h with e | e
    ·exact cH.mpr (.inl e)
    ·exact dX _ (i2 g e)
theorem z8 (f:Str) (v:V):∀fs:List (Str×V),(lu f v fs).length≤fs.length+1
 | []=>by simp [lu]
 | (k,x)::r=>by
  have ih:=z8 f v r
  rw [show lu f v ((k,x)::r)=(if k=f then(k,v)::r else(k,x)::lu f v r) from rfl]
  by_cases hk:k=f
  ·rw [if_pos hk,d8,d8];omega
  ·rw [if_neg hk,d8,d8];omega
theorem vX.some_of {v:V} {o:Option Value} (r:vX (some v) o):∃u,o=some u∧cZ v u:=by
 cases o with
 | none=>exact(show False from r).elim
 | some u=>exact⟨u,rfl,r⟩
theorem vX.none_of {o:Option Value} (r:vX none o):o=none:=by
 cases o with
 | none=>rfl
 | some u=>exact(show False from r).elim
theorem Eb {v:V} {u:Value} (r:cZ v u):PySem.W.handedIn u=true:=by
 cases v with
 | non=>cases (show u=Value.none from r);rfl
 | bl b=>cases (show u=Value.bool b from r);rfl
 | int i=>obtain⟨t,e⟩:=(show ∃t,u=Value.int i t from r);cases e;rfl
 | str x=>obtain⟨t,e⟩:=(show ∃t,u=Value.str x t from r);cases e;rfl
 | byt b=>obtain⟨t,e⟩:=(show ∃t,u=Value.bytes b t from r);cases e;rfl
 | flt b=>obtain⟨t,e⟩:=(show ∃t,u=Value.float b t from r);cases e;rfl
 | ref a=>cases (show u=Value.ref a from r);rfl
 | ty n=>cases (show u=Value.type n from r);rfl
section
variable {P:Program} {w:World} {H H':Hp} {h h':Heap} {a C dx:Addr} {fs fs':List (Str×V)}
theorem Bn (hok:vW P w H h) (e:H a=some (.ins C dx fs)):∃mA,HW h a dx C mA∧(∀f,vX (fs.lookup f) (mA f))∧PySem.Within mA (fs.map (·.1))∧fs.length≤1000∧H dx=some (.own a):=by
 obtain⟨d,z,ne,ob,mA,n,r,q⟩:=(show iF P w H h a (.ins C dx fs) from hok a _ e)
 exact⟨mA,⟨ob,n,ne⟩,r,q,z,d⟩
end
structure HR (K:PySem.W.Frag) (C:Addr):Prop where
 pg:PySem.W.plainGet K C Str.empty=true
 hd:PySem.W.hasDictIn K C=true
 po:PySem.W.plainOver K C=true
 sa:PySem.W.findIn K (.ref C) "__setattr__"=some (some (.builtin "object.__setattr__"))
theorem HR.get {K:PySem.W.Frag} {C:Addr} (c:HR K C) (f:Str):PySem.W.plainGet K C f=true:=c.pg
def ku (K:PySem.W.Frag) (C:Addr) (f:Str):Prop:=PySem.W.findIn K (.ref C) f=some none
theorem ku.taker {K:PySem.W.Frag} {C:Addr} {f:Str} (n:ku K C f):PySem.W.takerIn K C f=some none:=by
 unfold PySem.W.takerIn
 rw [show PySem.W.findIn K (.ref C) f=some none from n]
 rfl
structure Lp (K:PySem.W.Frag) (C:Addr) (m:Str) (f:Addr):Prop where
 at_:PySem.W.findIn K (.ref C) m=some (some (.ref f))
 fn:PySem.W.isFn K (.ref f)=true
 kp:PySem.W.keepIn K (.ref f)=true
section
variable {X:Cx} {pins:List (Addr×Obj)} {σ:St} {H:Hp} {s:Shared} {a C dx:Addr} {fs:List (Str×V)} {f:Str} {v:V} {A:Around} {E:Value→Shared→Prop}
theorem BK {b:Bool} {Q:Value→Shared→Prop} (I:be X pins σ H s) (e:H a=some (.ins C dx fs)) (c:HR X.K C) (n:ku X.K C f) (l:fs.lookup f=some v)
  (h:∀u s',be X pins σ H s'→cZ v u→Q u s'):wpAny (model X.prog X.w) A (getAttr (.ref a) f b) Q E s:=by
 obtain⟨mA,O,r,_,_,_⟩:=Bn I.hok e
 obtain⟨u,hu,ru⟩:=vX.some_of (v:=v) (o:=mA f) (by rw [←l];exact r f)
 exact Jr I.kIn O (c.get f) c.hd n hu (Eb ru) (h u _ (I.tok _) ru)
theorem v6 {m:Str} {g:Addr} {pl:Sem Bool} {Q:Value×List Value→Shared→Prop} (I:be X pins σ H s) (e:H a=some (.ins C dx fs)) (c:HR X.K C) (k:Lp X.K C m g) (l:fs.lookup m=none)
  (h:Q (.ref g,[.ref a]) s):wpAny (model X.prog X.w) A (getMethod (.ref a) m pl) Q E s:=by
 obtain⟨mA,O,r,_,_,_⟩:=Bn I.hok e
 have hn:mA m=none:=vX.none_of (by rw [←l];exact r m)
 exact LN I.kIn O (c.get m) k.at_ k.fn hn h
theorem Cz {y:V} {u:Value} {Q:Unit→Shared→Prop} (I:be X pins σ H s) (e:H a=some (.ins C dx fs)) (c:HR X.K C) (n:ku X.K C f) (hl:fs.length<1000) (ry:cZ y u)
  (h:∀s',be X pins σ (bT H a (.ins C dx (lu f y fs))) s'→Q ⟨⟩ s'):wpAny (model X.prog X.w) A (setAttr (.ref a) f u) Q E s:=by
 obtain⟨mA,O,r,wi,_,ho⟩:=Bn I.hok e
 have hz:(fs.map (·.1)).length≤sizeLine:=by rw [aD,sizeLine_eq];omega
 refine NO I.kIn O c.sa c.po n.taker c.hd wi hz fun h' O' sb=>h _ ?_
 have hd:∃o,h'.get? dx=some o:=let ⟨o,_,_,e',_⟩:=O'.ns;⟨o,e'⟩
 refine I.write (x:=a) (e:=dx) (by rw [e];exact True.intro) (.inr ho) (fun b q hb z=>(sb.2 b hb).trans z) hd ?_
 refine⟨by rw [ak O.ne];exact ho,?_,O.ne,O'.obj,_,O'.ns,fun g=>?_,fun g hg=>?_⟩
 ·have:=z8 f y fs;omega
 ·show vX ((lu f y fs).lookup g) (if g=f then some u else mA g)
  rw [z9]
  by_cases q:g=f
  ·rw [if_pos q,if_pos q];exact ry
  ·rw [if_neg q,if_neg q];exact r g
 ·by_cases q:g=f
  ·rw [q];exact(yL f y fs).1
  ·refine(yL f y fs).2 g (wi g fun z=>hg ?_)
   show(if g=f then some u else mA g)=none
   rw [if_neg q];exact z
theorem be.made (I:be X pins σ H s):be X pins σ (bT (bT H s.heap.objs.size (.own (s.heap.objs.size+1))) (s.heap.objs.size+1) (.ins C s.heap.objs.size []))
  {s with heap:=(s.heap.push PySem.W.emptyDict).push (PySem.W.instObj C s.heap.objs.size)}:=by
 have e1:(s.heap.push PySem.W.emptyDict).get? s.heap.objs.size=some PySem.W.emptyDict:=vv s.heap rfl
 have e2:((s.heap.push PySem.W.emptyDict).push (PySem.W.instObj C s.heap.objs.size)).get? (s.heap.objs.size+1)=some (PySem.W.instObj C s.heap.objs.size):=by
  have:=vv (s.heap.push PySem.W.emptyDict) (o:=PySem.W.instObj C s.heap.objs.size) rfl
  rwa [Bh] at this
 have e3:(s.heap.push PySem.W.emptyDict).Ns s.heap.objs.size (fun _=>none):=⟨PySem.W.emptyDict,#[],_,e1,rfl,(fun e he=>absurd he (by simp)),fun _=>rfl⟩
 have I1:=I.laid (a:=s.heap.objs.size) (o:= .own (s.heap.objs.size+1)) (h':=s.heap.push PySem.W.emptyDict) (t':=s.toks) (fun b u q=>i9 _ q) (bq _) ⟨_,e1⟩
 refine I1.laid (a:=s.heap.objs.size+1) (o:= .ins C s.heap.objs.size []) (t':=s.toks) (fun b u q=>i9 _ q) (Nat.le_of_eq (Bh _ _)) ?_
 have ne:s.heap.objs.size≠s.heap.objs.size+1:=fm (Nat.lt_succ_self _)
 refine⟨by rw [ak ne,af],bo _,ne,e2,fun _=>none,(Heap.Ns1.of_empty e3).at fun o q=>i9 _ q,fun _=>True.intro,fun y hy=>absurd rfl hy⟩
theorem Jj {prog:Program} {w:World} {env:Env} {e:Expr} {f:Str} {pos:Pos} {s:Shared} {Q:Value→Shared→Prop} (hb:attributeBase e f env (eval e env)=eval e env)
  (h:wpAny (model prog w) A (eval e env) (fun o s₁=>wpAny (model prog w) A (getAttr o f true) Q E s₁) E s):wpAny (model prog w) A (eval (.Attribute e f pos) env) Q E s:=
 Attribute_any_ h (by rw [arm_eval_Attribute,hb])
end
def Qa (K:PySem.W.Frag) (ta:TE) (f:Str):TE:=fun σ H Q=>ta σ H fun x H1=>∃a C dx fs v,x= .ref a∧H1 a=some (.ins C dx fs)∧HR K C∧ku K C f∧fs.lookup f=some v∧Q v H1
def QZ (K:PySem.W.Frag) (ta tv:TE) (f:Str):TS:=fun D σ H=>tv σ H fun y H1=>ta σ H1 fun x H2=>∃a C dx fs,x= .ref a∧H2 a=some (.ins C dx fs)∧HR K C∧ku K C f∧fs.length<1000∧
 D.nx σ (bT H2 a (.ins C dx (lu f y fs)))
def Pn (X:Cx) (op:Operator) (rd:V→V→Hp→VK→Prop):Prop:=
 ∀(pins:List (Addr×Obj)) (s:Shared) (σ:St) (H:Hp) (x y:V) (u v:Value) (Q:VK),be X pins σ H s→cZ x u→cZ y v→rd x y H Q→wpAny (model X.prog X.w) X.A (inplaceOp op u v) (EP X pins σ Q) X.xe s
def NN (K:PySem.W.Frag) (ta tv:TE) (rd:V→V→Hp→VK→Prop) (f:Str):TS:=fun D σ H=>ta σ H fun x H1=>∃a C dx fs v,x= .ref a∧H1 a=some (.ins C dx fs)∧HR K C∧ku K C f∧fs.lookup f=some v∧
 tv σ H1 fun y H2=>rd v y H2 fun z H3=>∃dx' fs',H3 a=some (.ins C dx' fs')∧fs'.length<1000∧D.nx σ (bT H3 a (.ins C dx' (lu f z fs')))
section
variable {X:Cx} {o e value:Expr} {f:Str} {pos pos' tpos:Pos} {ta tv:TE}
theorem ao (he:PE X e ta) (hb:attributeBase e f X.env (eval e X.env)=eval e X.env):PE X (.Attribute e f pos) (Qa X.K ta f):=by
 intro pins s σ H Q I h
 refine Jj hb (eS (he pins s σ H _ I h) fun u s1 ⟨x,H1,I1,rx,a,C,dx,fs,v,ex,ea,c,n,l,q⟩=>?_)
 subst ex
 obtain rfl:u=Value.ref a:=rx
 exact BK I1 ea c n l fun u' s2 I2 ru=>⟨v,H1,I2,ru,q⟩
theorem cv (ha:PE X o ta) (hv:PE X value tv) (hs:swapsWith value (some (.Attribute o f pos')) pos.line X.env=pure false):PS X (.Assign [.Attribute o f pos'] value pos) (QZ X.K ta tv f):=by
 intro pins s σ H D I h
 refine plainObj_wpAny_Assign_Attribute (eS (hv pins s σ H _ I h) fun u s1 ⟨y,H1,I1,ry,q⟩=>eS (ha pins s1 σ H1 _ I1 q) fun ov s2 ⟨x,H2,I2,rx,a,C,dx,fs,ex,ea,c,n,l,q2⟩=>?_) hs
 subst ex
 obtain rfl:ov=Value.ref a:=rx
 exact Cz I2 ea c n l ry fun s3 I3=>⟨σ,_,I3,q2⟩
theorem uY {op:Operator} {rd:V→V→Hp→VK→Prop} (ha:PE X o ta) (hv:PE X value tv) (hop:Pn X op rd):PS X (.AugAssign (.Attribute o f tpos) op value pos) (NN X.K ta tv rd f):=by
 intro pins s σ H D I h
 refine wpAny_AugAssign_AttributeAny (eS (ha pins s σ H _ I h) fun ov s1 ⟨x,H1,I1,rx,a,C,dx,fs,v,ex,ea,c,n,l,q⟩=>?_)
 subst ex
 obtain rfl:ov=Value.ref a:=rx
 refine BK I1 ea c n l fun u s2 I2 ru=>eS (hv pins s2 σ H1 _ I2 q) fun w3 s3 ⟨y,H2,I3,ry,q3⟩=>eS (hop pins s3 σ H2 v y u w3 _ I3 ru ry q3) fun w4 s4 ⟨z,H3,I4,rz,dx',fs',ea',l',q4⟩=>?_
 exact Cz I4 ea' c n l' rz fun s5 I5=>⟨σ,_,I5,q4⟩
def QR:V→V→Hp→VK→Prop:=fun x y H Q=>∃i j,x= .int i∧y= .int j∧Q (.int (i+j)) H
theorem EW:Pn X .Add QR:=by
 rintro pins s σ H x y u v Q I rx ry ⟨i,j,rfl,rfl,q⟩
 obtain⟨t,rfl⟩:=(show ∃t,u=Value.int i t from rx)
 obtain⟨t',rfl⟩:=(show ∃t',v=Value.int j t' from ry)
 exact PyProof.Rows.iadd_int ⟨.int (i+j),H,I.tok _,⟨_,rfl⟩,q⟩
theorem Ob {pl:Sem Bool} {m:Str} {apos:Pos} {args:List Expr} {pins:List (Addr×Obj)} {s:Shared} {σ:St} {H:Hp} {Q:Value→Shared→Prop} {te:TE} (he:PE X e te) (I:be X pins σ H s)
  (h:te σ H fun x H1=>∃a C dx fs g,x= .ref a∧H1 a=some (.ins C dx fs)∧HR X.K C∧Lp X.K C m g∧fs.lookup m=none∧
   ∀s1,be X pins σ H1 s1→wpAny (model X.prog X.w) X.A (callWith pos (.ref g) [.ref a] (backTo pos (starEach args X.env)) (backToKw pos (keywordEach [] X.env))) Q X.xe s1)
  (ht:eval (.Call (.Attribute e m apos) args [] pos) X.env=(do
   let ov ←eval e X.env
   standAt apos.atName
   let (f,first) ←holding [ov] (getMethod ov m pl)
   callWith pos f first (backTo pos (starEach args X.env)) (backToKw pos (keywordEach [] X.env)))):
  wpAny (model X.prog X.w) X.A (eval (.Call (.Attribute e m apos) args [] pos) X.env) Q X.xe s:=by
 refine PySem.W.methodCall_KW (pl:=pl) (eS (he pins s σ H _ I h) fun u s1 ⟨x,H1,I1,rx,a,C,dx,fs,g,ex,ea,c,k,l,q⟩=>?_) ht
 subst ex
 obtain rfl:u=Value.ref a:=rx
 exact v6 I1 ea c k l (q s1 I1)
end
section
variable {X:Cx} {pins:List (Addr×Obj)} {σ:St} {H:Hp} {s:Shared} {A:Around} {E:Value→Shared→Prop} {Q:Value→Shared→Prop} {c:Value} {b:Bool}
end
end L2
namespace L2
open PySem PySem.Spec PyProof.Rows
structure eU (k:Nat) (A:Around):Prop where
 hd:A.handled=none
 dp:A.depth+3*k+5<recursionLimit
 un:A.units+16*k+200<cLine
theorem eU.mono {j k:Nat} {A:Around} (r:eU k A) (h:j≤k):eU j A:=⟨r.hd,by have:=r.dp;omega,by have:=r.un;omega⟩
theorem eU.deeper {k:Nat} {A:Around} (r:eU (k+1) A) (env:Env):eU k (A.deeper env):=
 ⟨r.hd,by have:=r.dp;show A.depth+1+3*k+5<_;omega,by have:=r.un;show A.units+3+16*k+200<_;omega⟩
theorem Ig {A:Around} {C:Addr} {us:List Value} {kw:List (Str×Value)}:(A.under (.builtin "type.__call__" ⟨.ref C::us,kw⟩)).depth=A.depth+1:=by
 first | rfl | simp [Around.under,Code.weight,Code.isCreation,Code.isGuard,Code.isCaller,Code.frames,Code.isFrame,guardIds]
theorem Ih {A:Around} {C:Addr} {us:List Value} {kw:List (Str×Value)}:(A.under (.builtin "type.__call__" ⟨.ref C::us,kw⟩)).units=A.units+1:=by
 first | rfl | simp [Around.under,Code.cUnits,Code.frames,Code.isFrame]
theorem eU.make {k:Nat} {A:Around} (r:eU (k+1) A) (C:Addr) (us:List Value) (kw:List (Str×Value)):eU k (A.under (.builtin "type.__call__" ⟨.ref C::us,kw⟩)):=
 ⟨r.hd,by have:=r.dp;rw [Ig];omega,by have:=r.un;rw [Ih];omega⟩
theorem eU.depth {k:Nat} {A:Around} (r:eU k A):A.depth<recursionLimit:=by have:=r.dp;omega
def MG:TA:=fun _ H Q=>Q [] H
def P8 (ta:TE) (tr:TA):TA:=fun σ H Q=>ta σ H fun x H1=>tr σ H1 fun xs H2=>Q (x::xs) H2
section
variable {X:Cx} {e:Expr} {es:List Expr} {te:TE} {t:TA} {pos:Pos}
theorem ad:PA X [] MG:=fun _ _ _ _ H Q I h=>Calls.spliced_nil ⟨[],H,I,.nil,h⟩
theorem ab (ha:PE X e te) (hr:PA X es t) (hs:starEach (e::es) X.env=(false,eval e X.env)::starEach es X.env:=by rfl):PA X (e::es) (P8 te t):=by
 intro pos pins s σ H Q I h
 rw [hs]
 show wpAny _ _ (spliced ((false,eval e X.env)::backTo pos (starEach es X.env))) _ _ s
 refine Calls.spliced_cons (eS (ha pins s σ H _ I h) fun u s1 ⟨x,H1,I1,r1,q1⟩=>?_)
 exact eS (hr pos pins s1 σ H1 _ I1 q1) fun us s2 ⟨xs,H2,I2,r2,q2⟩=>⟨x::xs,H2,I2,.cons r1 r2,q2⟩
def Re (t:TA):TE:=fun σ H Q=>t σ H fun xs H1=>xs.length≤sizeLine∧∀p,H1 p=none→Q (.ref p) (bT H1 p (.tup xs))
def Q9 (t:TA):TE:=fun σ H Q=>t σ H fun xs H1=>xs.length≤sizeLine∧∀p,H1 p=none→Q (.ref p) (bT H1 p (.lst xs))
theorem Mq {x1} (h:PA X es t):PE X (.Tuple es x1 pos) (Re t):=by
 intro pins s σ H Q I hq
 refine wpAny_Tuple_spliced (eS (h pos pins s σ H _ I hq) fun us s1 ⟨xs,H1,I1,r,z,q⟩=>⟨by rw [←r.length];exact z,?_⟩)
 have hf:H1 s1.heap.objs.size=none:=I1.hok.fresh (bq _)
 refine⟨.ref s1.heap.objs.size,bT H1 s1.heap.objs.size (.tup xs),I1.laid (t':=s1.toks) (fun b u e=>i9 _ e) (bq _) ?_,rfl,q _ hf⟩
 exact⟨z,us,r,⟨_,vv _ rfl,rfl,_,rfl⟩⟩
theorem aI (h:PA X es t):PE X (.List es pos) (Q9 t):=by
 intro pins s σ H Q I hq
 refine wpAny_List_spliced (eS (h pos pins s σ H _ I hq) fun us s1 ⟨xs,H1,I1,r,z,q⟩=>⟨by rw [←r.length];exact z,?_⟩)
 have hf:H1 s1.heap.objs.size=none:=I1.hok.fresh (bq _)
 refine⟨.ref s1.heap.objs.size,bT H1 s1.heap.objs.size (.lst xs),I1.laid (t':=s1.toks) (fun b u e=>i9 _ e) (bq _) ?_,rfl,q _ hf⟩
 exact⟨z,us,0,r,vv _ rfl⟩
end
abbrev Sp:=List V→Hp→VK→XK→Prop
abbrev Ll:=List Env→Hp→Shared→XK→Value→Shared→Prop
structure HV (P:Program) (w:World) (K:PySem.W.Frag) (mg:Str→Option Value) (base:Heap) (A:Around) (outer:List Env) (s:Shared) (H:Hp):Prop where
 frames:A.frames=some outer
 mod:Mod K mg base
 bs:∀b o,base.get? b=some o→s.heap.get? b=some o∧H b=none
 bsz:base.objs.size≤s.heap.objs.size
 funs:s.heap.FunFrames base outer
 frf:∀b∈LJ outer,H b=none
 hok:vW P w H s.heap
 bare:AllBare s.gens
def CE (outer:List Env) (P:Program) (w:World) (H:Hp) (s:Shared) (Q:VK) (u:Value) (s':Shared):Prop:=
 ∃v H',s'.os=s.os∧AllBare s'.gens∧Un (LJ outer) [] H H' s.heap s'.heap∧vW P w H' s'.heap∧cZ v u∧Q v H'
def CR (CX:Ll) (outer:List Env) (P:Program) (w:World) (H:Hp) (s:Shared) (Q:VK) (E:XK) (r:Result) (s':Shared):Prop:=
 match r with
 | .ok (.ret u)=>CE outer P w H s Q u s'
 | .ok _=>False
 | .error e=>CX outer H s E e s'
structure j1 (P:Program) (w:World) (K:PySem.W.Frag) (mg:Str→Option Value) (base:Heap) (CX:Ll) (k:Nat) (f:Addr) (fd:FuncData) (ps:List Str) (sp:Sp):Prop where
 len:∀vs H Q E,sp vs H Q E→vs.length=ps.length
 run:∀(A:Around) (outer:List Env) (s:Shared) (H:Hp) (args:Args) (us:List Value) (vs:List V) (Q:VK) (E:XK),eU k A→HV P w K mg base A outer s H→BindsTo s fd args (ps.zip us)→bO vs us→sp vs H Q E→
  codeAny (model P w) A (.call (.ref f) args) (CR CX outer P w H s Q E) s
theorem HV.make {P:Program} {w:World} {K:PySem.W.Frag} {mg:Str→Option Value} {base:Heap} {A:Around} {outer:List Env} {s:Shared} {H:Hp} (e:HV P w K mg base A outer s H) (C:Addr) (us:List Value) (kw:List (Str×Value)):
  HV P w K mg base (A.under (.builtin "type.__call__" ⟨.ref C::us,kw⟩)) outer s H:=⟨by first | exact e.frames | (simpa [Around.under,Code.envs,Code.isFrame,pushEnvs] using e.frames),e.mod,e.bs,e.bsz,e.funs,e.frf,e.hok,e.bare⟩
section
variable {X:Cx} {pins:List (Addr×Obj)} {σ:St} {H:Hp} {s s':Shared}
theorem be.env0 (I:be X pins σ H s):HV X.prog X.w X.K X.mg X.base X.A X.stack s H:=
 ⟨I.ok.frames,I.ok.mod,I.bs,fS I.ok.bsz I.sz,I.stack,I.stkFree,I.hok,I.bare⟩
theorem be.after {Q:VK} {u:Value} (I:be X pins σ H s) (h:CE X.stack X.prog X.w H s Q u s'):EP X pins σ Q u s':=by
 obtain⟨v,H',os,bare,un,hok,r,q⟩:=h
 obtain⟨hh,g,d,t,os'⟩:=s'
 obtain rfl:os'=s.os:=os
 exact⟨v,H',I.call (h':=hh) (g':=g) (d':=d) (t':=t) (ch:= []) un hok bare (fun b z=>absurd z (by simp)),r,q⟩
end
def Of (sp:Sp) (dvs:List V) (E:XK) (t:TA):TE:=fun σ H Q=>t σ H fun vs H1=>sp (vs++dvs) H1 Q E
def Hr (C:Addr) (m:Str) (sp:Sp) (dvs:List V) (E:XK) (ta:TE) (t:TA):TE:=fun σ H Q=>ta σ H fun x H1=>∃a dx fs,x= .ref a∧H1 a=some (.ins C dx fs)∧fs.lookup m=none∧
 t σ H1 fun vs H2=>sp (x::(vs++dvs)) H2 Q E
def MF (C:Addr) (sp:Sp) (dvs:List V) (E:XK) (t:TA):TE:=fun σ H Q=>t σ H fun vs H1=>∀x dx,H1 x=none→H1 dx=none→dx≠x→
 sp (.ref x::(vs++dvs)) (bT (bT H1 dx (.own x)) x (.ins C dx [])) (fun v H2=>v= .non∧Q (.ref x) H2) E
def jc (K:PySem.W.Frag) (fd:FuncData) (ps:List Str) (ds:List Value):Prop:=
 ∀(s:Shared) (us:List Value),K.In s.heap→(us++ds).length=ps.length→BindsTo s fd ⟨us,[]⟩ (ps.zip (us++ds))
theorem jc.all {K:PySem.W.Frag} {fd:FuncData} {ps:List Str} (h:∀us:List Value,us.length=ps.length→bindArgs fd ⟨us,[]⟩=pure (ps.zip us)):jc K fd ps []:=fun s us _ hl=>by
 rw [vU] at hl⊢
 exact .of_eq (h us hl)
def tD (CX:Ll) (X:Cx) (E:XK):Prop:=∀(pins:List (Addr×Obj)) (σ:St) (H:Hp) (s:Shared) (e:Value) (s':Shared),be X pins σ H s→CX X.stack H s E e s'→X.xe e s'
section
variable {X:Cx} {CX:Ll} {k:Nat} {f C:Addr} {fd:FuncData} {ps:List Str} {sp:Sp} {dvs:List V} {ds:List Value} {E:XK} {x m:Str} {p pos apos:Pos} {e o:Expr} {es:List Expr} {ta:TE} {t:TA}
theorem Fh {pins:List (Addr×Obj)} {σ:St} {H:Hp} {s:Shared} {Q:VK} {us:List Value} {vs:List V} (F:j1 X.prog X.w X.K X.mg X.base CX k f fd ps sp) (hr:eU k X.A) (hb:jc X.K fd ps ds) (hd:bO dvs ds) (hx:tD CX X E)
  (I:be X pins σ H s) (r:bO vs us) (h:sp (vs++dvs) H Q E):wpAny (model X.prog X.w) X.A (call (.ref f) us) (EP X pins σ Q) X.xe s:=by
 have r2:bO (vs++dvs) (us++ds):=r.append hd
 have hl:(us++ds).length=ps.length:=by rw [←r2.length];exact F.len _ _ _ _ h
 refine wpAny_call (codeAny_mono (F.run X.A X.stack s H ⟨us,[]⟩ (us++ds) (vs++dvs) Q E hr I.env0 (hb s us I.kIn hl) r2 h) fun r s' hq=>?_)
 cases r with
 | error e=>exact hx pins σ H s e s' I hq
 | ok fl=>
  cases fl with
  | ret u=>exact I.after hq
  | next=>exact False.elim hq
  | brk=>exact False.elim hq
  | cont=>exact False.elim hq
theorem NC (F:j1 X.prog X.w X.K X.mg X.base CX k f fd ps sp) (hr:eU k X.A) (hg:Gl X x) (hm:X.mg x=some (.ref f)) (hk:PySem.W.keepIn X.K (.ref f)=true) (hb:jc X.K fd ps ds) (hd:bO dvs ds) (hx:tD CX X E)
  (ha:PA X (e::es) t) (hdb:(x==("__debug__":Str))=false:=by decide) (he:starEach (e::es) X.env=(false,eval e X.env)::starEach es X.env:=by rfl) (hpl:(backTo pos (starEach es X.env)).any (·.1)=false:=by rfl):
  PE X (.Call (.Name x p) (e::es) [] pos) (Of sp dvs E t):=by
 intro pins s σ H Q I h
 refine wV (Bo I hg hm ?_ hdb)
 refine PySem.W.callWith_K (h₀:=X.base) I.ok.mod.kin hk (eS (ha pos pins s σ H _ I h) fun us s1 ⟨vs,H1,I1,r,q⟩=>⟨I1.kIn,?_⟩) he hpl
 exact Fh F hr hb hd hx I1 r q
theorem ND {pl:Sem Bool} (he:PE X o ta) (c:HR X.K C) (hm:Lp X.K C m f) (F:j1 X.prog X.w X.K X.mg X.base CX k f fd ps sp) (hr:eU k X.A) (hb:jc X.K fd ps ds) (hd:bO dvs ds) (hx:tD CX X E) (ha:PA X (e::es) t)
  (hst:starEach (e::es) X.env=(false,eval e X.env)::starEach es X.env:=by rfl) (hpl:(backTo pos (starEach es X.env)).any (·.1)=false:=by rfl)
  (ht:eval (.Call (.Attribute o m apos) (e::es) [] pos) X.env=(do
   let ov ←eval o X.env
   standAt apos.atName
   let (f,first) ←holding [ov] (getMethod ov m pl)
   callWith pos f first (backTo pos (starEach (e::es) X.env)) (backToKw pos (keywordEach [] X.env))):=by rfl):
  PE X (.Call (.Attribute o m apos) (e::es) [] pos) (Hr C m sp dvs E ta t):=by
 intro pins s σ H Q I h
 refine PySem.W.methodCall_KW (pl:=pl) (eS (he pins s σ H _ I h) fun u s1 ⟨x,H1,I1,rx,a,dx,fs,ex,ea,l,q⟩=>?_) ht
 subst ex
 obtain rfl:u=Value.ref a:=rx
 refine v6 I1 ea c hm l ?_
 refine PySem.W.callWith_K (first:= [.ref a]) (h₀:=X.base) I.ok.mod.kin hm.kp (eS (ha pos pins s1 σ H1 _ I1 q) fun us s2 ⟨vs,H2,I2,r,q2⟩=>⟨I2.kIn,?_⟩) hst hpl
 exact Fh (us:= .ref a::us) (vs:= .ref a::vs) F hr hb hd hx I2 (.cons rfl r) q2
theorem Mp {pl:Sem Bool} (he:PE X o ta) (c:HR X.K C) (hm:Lp X.K C m f) (F:j1 X.prog X.w X.K X.mg X.base CX k f fd ps sp) (hr:eU k X.A) (hb:jc X.K fd ps ds) (hd:bO dvs ds) (hx:tD CX X E)
  (ht:eval (.Call (.Attribute o m apos) [] [] pos) X.env=(do
   let ov ←eval o X.env
   standAt apos.atName
   let (f,first) ←holding [ov] (getMethod ov m pl)
   callWith pos f first (backTo pos (starEach [] X.env)) (backToKw pos (keywordEach [] X.env))):=by rfl):
  PE X (.Call (.Attribute o m apos) [] [] pos) (Hr C m sp dvs E ta MG):=by
 intro pins s σ H Q I h
 refine PySem.W.methodCall_KW (pl:=pl) (eS (he pins s σ H _ I h) fun u s1 ⟨x,H1,I1,rx,a,dx,fs,ex,ea,l,q⟩=>?_) ht
 subst ex
 obtain rfl:u=Value.ref a:=rx
 refine v6 I1 ea c hm l ?_
 exact PySem.W.callWith_K0 (first:= [.ref a]) I1.kIn hm.kp (Fh (us:= [.ref a]) (vs:= [.ref a]) F hr hb hd hx I1 (.cons rfl .nil) q)
structure Mk (K:PySem.W.Frag) (C f:Addr):Prop where
 makes:PySem.W.makesIn K C=true
 init:PySem.W.findIn K (.ref C) "__init__"=some (some (.ref f))
 fn:PySem.W.isFn K (.ref f)=true
 kp:PySem.W.keepIn K (.ref C)=true
theorem GR {pins:List (Addr×Obj)} {σ:St} {H:Hp} {s:Shared} {Q:VK} {us:List Value} {vs:List V} (M:Mk X.K C f) (F:j1 X.prog X.w X.K X.mg X.base CX k f fd ps sp) (hr:eU (k+1) X.A) (hb:jc X.K fd ps ds) (hd:bO dvs ds)
  (hx:tD CX X E) (I:be X pins σ H s) (r:bO vs us)
  (h:∀x dx,H x=none→H dx=none→dx≠x→sp (.ref x::(vs++dvs)) (bT (bT H dx (.own x)) x (.ins C dx [])) (fun v H2=>v= .non∧Q (.ref x) H2) E):
  wpAny (model X.prog X.w) X.A (call (.ref C) us) (EP X pins σ Q) X.xe s:=by
 have hq:=h (s.heap.objs.size+1) s.heap.objs.size (I.hok.fresh (Nat.le_succ _)) (I.hok.fresh (bq _)) (fm (Nat.lt_succ_self _))
 have I2:=be.made (C:=C) I
 have r2:bO (V.ref (s.heap.objs.size+1)::(vs++dvs)) (Value.ref (s.heap.objs.size+1)::(us++ds)):= .cons rfl (r.append hd)
 have hl:(Value.ref (s.heap.objs.size+1)::us++ds).length=ps.length:=by
  have e:=r2.length
  rw [F.len _ _ _ _ hq] at e
  exact e.symm
 refine wpAny_call (L0 (f:=f) I.kIn M.makes M.init (beq_iff_eq.mp M.fn) (codeAny_mono (F.run _ X.stack _ _ ⟨Value.ref (s.heap.objs.size+1)::us,[]⟩ (Value.ref (s.heap.objs.size+1)::(us++ds)) _ _ E (hr.make C us [])
  (I2.env0.make C us []) (hb _ (Value.ref (s.heap.objs.size+1)::us) I2.kIn hl) r2 hq) fun r s' hq'=>?_))
 cases r with
 | error e=>exact hx pins σ _ _ e s' I2 hq'
 | ok fl=>
  cases fl with
  | ret u=>
   obtain⟨v,H',I3,rv,ev,q3⟩:=I2.after hq'
   subst ev
   exact⟨rv,⟨V.ref (s.heap.objs.size+1),H',I3,rfl,q3⟩⟩
  | next=>exact False.elim hq'
  | brk=>exact False.elim hq'
  | cont=>exact False.elim hq'
theorem Fd (M:Mk X.K C f) (F:j1 X.prog X.w X.K X.mg X.base CX k f fd ps sp) (hr:eU (k+1) X.A) (hg:Gl X x) (hm:X.mg x=some (.ref C)) (hb:jc X.K fd ps ds) (hd:bO dvs ds) (hx:tD CX X E)
  (ha:PA X (e::es) t) (hdb:(x==("__debug__":Str))=false:=by decide) (he:starEach (e::es) X.env=(false,eval e X.env)::starEach es X.env:=by rfl) (hpl:(backTo pos (starEach es X.env)).any (·.1)=false:=by rfl):
  PE X (.Call (.Name x p) (e::es) [] pos) (MF C sp dvs E t):=by
 intro pins s σ H Q I h
 refine wV (Bo I hg hm ?_ hdb)
 refine PySem.W.callWith_K (h₀:=X.base) I.ok.mod.kin M.kp (eS (ha pos pins s σ H _ I h) fun us s1 ⟨vs,H1,I1,r,q⟩=>⟨I1.kIn,?_⟩) he hpl
 exact GR M F hr hb hd hx I1 r q
theorem Mo (M:Mk X.K C f) (F:j1 X.prog X.w X.K X.mg X.base CX k f fd ps sp) (hr:eU (k+1) X.A) (hg:Gl X x) (hm:X.mg x=some (.ref C)) (hb:jc X.K fd ps ds) (hd:bO dvs ds) (hx:tD CX X E)
  (hdb:(x==("__debug__":Str))=false:=by decide):PE X (.Call (.Name x p) [] [] pos) (MF C sp dvs E MG):=by
 intro pins s σ H Q I h
 refine wV (Bo I hg hm ?_ hdb)
 exact PySem.W.callWith_K0 I.kIn M.kp (GR (us:= []) M F hr hb hd hx I .nil h)
end
section
variable {X:Cx} {CX:Ll} {k:Nat} {f C:Addr} {fd:FuncData} {ps ks:List Str} {sp:Sp} {E:XK} {x m:Str} {p pos apos kpos:Pos} {e o:Expr} {es:List Expr} {kws:List Keyword} {te ta:TE} {t tk:TA} {nm:Option Str}
variable {g:List Value→List Value→List Value} {gV:List V→List V→List V}
end
structure ap (N P:List Str) (sc:Scope):Prop where
 kind:sc.kind= .function
 co:sc.isCoroutine=false
 gen:sc.isGenerator=false
 nd:N.Nodup
 pre:N.take P.length=P
 par:∀x∈P,sc.names.lookup x=some .local∨sc.names.lookup x=some .cell
 nofree:∀y∈sc.names,y.2≠ .free
theorem D2 {kindOf:Str→Option NameKind} {x:Str}:∀{binds:List (Str×Value)} {m:Str→Option Value},(∀v,(x,v) ∉ binds)→bindL kindOf binds m x=m x
 | [],_,_=>rfl
 | (n,v)::r,m,h=>by
  unfold bindL
  rw [D2 fun w hw=>h w (dX _ hw)]
  split
  ·have:x≠n:=by rintro rfl;exact h v fD
   simp [this]
  ·rfl
theorem D0 {kindOf:Str→Option NameKind} {x:Str}:∀{binds:List (Str×Value)} {m:Str→Option Value},(∀v,(x,v) ∉ binds)→bindC kindOf binds m x=m x
 | [],_,_=>rfl
 | (n,v)::r,m,h=>by
  unfold bindC
  rw [D0 fun w hw=>h w (dX _ hw)]
  split
  ·rfl
  ·have:x≠n:=by rintro rfl;exact h v fD
   simp [this]
theorem D1 {kindOf:Str→Option NameKind} {x:Str} {v:Value}:∀{P:List Str} {vs:List Value} {i:Nat} {m:Str→Option Value},P.Nodup→P[i]?=some x→vs[i]?=some v→kindOf x=some .local→
  bindL kindOf (P.zip vs) m x=some v
 | [],_,_,_,_,h,_,_=>by simp at h
 | _::_,[],_,_,_,_,h,_=>by simp at h
 | p::P,w::vs,0,m,nd,h1,h2,hk=>by
  simp at h1 h2;subst h1;subst h2
  show bindL kindOf ((p,w)::P.zip vs) m p=_
  unfold bindL
  rw [D2 fun v hv=>(uL.mp nd).1 (List.of_mem_zip hv).1,if_pos hk]
  simp
 | p::P,w::vs,i+1,m,nd,h1,h2,hk=>by
  show bindL kindOf ((p,w)::P.zip vs) m x=_
  unfold bindL
  exact D1 (i:=i) (uL.mp nd).2 (by simpa using h1) (by simpa using h2) hk
theorem DZ {kindOf:Str→Option NameKind} {x:Str} {v:Value}:∀{P:List Str} {vs:List Value} {i:Nat} {m:Str→Option Value},P.Nodup→P[i]?=some x→vs[i]?=some v→kindOf x≠some .local→
  bindC kindOf (P.zip vs) m x=some v
 | [],_,_,_,_,h,_,_=>by simp at h
 | _::_,[],_,_,_,_,h,_=>by simp at h
 | p::P,w::vs,0,m,nd,h1,h2,hk=>by
  simp at h1 h2;subst h1;subst h2
  show bindC kindOf ((p,w)::P.zip vs) m p=_
  unfold bindC
  rw [D0 fun v hv=>(uL.mp nd).1 (List.of_mem_zip hv).1,if_neg hk]
  simp
 | p::P,w::vs,i+1,m,nd,h1,h2,hk=>by
  show bindC kindOf ((p,w)::P.zip vs) m x=_
  unfold bindC
  exact DZ (i:=i) (uL.mp nd).2 (by simpa using h1) (by simpa using h2) hk
def start (N:List Str) (vs:List V):St:=vs.map some++List.replicate (N.length - vs.length) none
def ER (CX:Ll) (P:Program) (w:World) (K:PySem.W.Frag) (mg:Str→Option Value) (base:Heap) (N:List Str) (qual:Str) (scope:Scope) (f:Addr) (cd:Value) (A:Around) (outer:List Env) (s:Shared) (H:Hp) (E:XK):Cx where
 prog:=P
 w:=w
 K:=K
 mg:=mg
 base:=base
 A:=A.deeper (envOfC qual scope s.heap.objs.size f cd)
 N:=N
 s_0:=s
 H_0:=H
 env:=envOfC qual scope s.heap.objs.size f cd
 outer:=outer
 stack:=envOfC qual scope s.heap.objs.size f cd::outer
 ex:= []
 calm:=true
 fn:=fun _=>true
 pn:= []
 xe:=fun e s'=>wpAny (model P w) (A.deeper (envOfC qual scope s.heap.objs.size f cd)) (leaving (envOfC qual scope s.heap.objs.size f cd) e) (fun _ s''=>CX outer H s E e s'') (fun e' s''=>CX outer H s E e' s'') s'
theorem F6 {sc:Scope} {n:Nat} {x:Str} (h:sc.names.lookup x=some .cell):∃c,(cellsFrom n sc.names []).lookup x=some c:=by
 have q:=PySem.W.cellsFrom_some sc.names n [] (.inl h)
 exact Option.isSome_iff_exists.mp q
theorem Ko {CX:Ll} {P:Program} {w:World} {K:PySem.W.Frag} {mg:Str→Option Value} {base:Heap} {N ps:List Str} {qual:Str} {scope:Scope} {f:Addr} {cd:Value} {A:Around} {outer:List Env} {s s1:Shared} {H:Hp} {E:XK} {us:List Value} {vs:List V}
  (S:ap N ps scope) (hd:A.handled=none) (e0:HV P w K mg base A outer s H) (hl:vs.length=ps.length) (r:bO vs us)
  (x:InCallC s s.heap.objs.size (bindL (envOfC qual scope s.heap.objs.size f cd).kindOf (ps.zip us) fun _=>none) (cellsFrom (s.heap.objs.size+1) scope.names []) (bindC (envOfC qual scope s.heap.objs.size f cd).kindOf (ps.zip us) fun _=>none) s1):
  be (ER CX P w K mg base N qual scope f cd A outer s H E) [] (start N vs) H s1:=by
 have hpl:ps.length≤N.length:=by have:=cA List.length S.pre;rw [ii] at this;omega
 obtain⟨h1,tk,rfl,hk⟩:=x.done
 have noA:∀b:Addr,b ∉ (ER CX P w K mg base N qual scope f cd A outer s H E).ex:=fun b z=>absurd (show b∈([]:List Addr) from z) (by simp)
 refine⟨⟨e0.mod,S.kind,rfl,rfl,bq _,fun y z c h1 h2=>?_,fun y hy=>?_,fun y c _ h=>?_,fun _=>hd,Around.frames_deeper e0.frames,.inr ⟨rfl,rfl⟩,fun b z=>absurd z (noA b),e0.bs,e0.bsz,fun b _ _=>noA b,fun b z=>absurd z (noA b),e0.funs,e0.frf⟩,
  rfl,e0.bare,Un.kept hk,⟨_,x.toInCall.ns,fun i y v h1 h2 h3=>?_⟩,fun y c h=>⟨_,x.cell y c h⟩,e0.hok.fresh (bq _),fun y c h=>?_,fun p hp=>absurd (show p∈([]:List (Addr×Obj)) from hp) (by simp),e0.hok.kept hk,?_⟩
 ·exact name_of_addr x.apart (i8 h1) (i8 h2)
 ·have hy:scope.names.lookup y=some .cell∨scope.names.lookup y=some .free:=hy
  rcases hy with hy | hy
  ·exact F6 hy
  ·exact absurd rfl (S.nofree _ (i8 hy))
 ·exact Nat.le_of_lt (x.above y c (i8 h))
 ·have hi:i<vs.length:=by
   unfold start at h2
   by_cases hi:i<vs.length
   ·exact hi
   ·rw [n9 (by simpa using hi)] at h2
    rw [List.getElem?_replicate] at h2
    split at h2<;>cases h2
  have ha:vs[i]?=some v:=by
   unfold start at h2
   rw [n8 (by simpa using hi),du] at h2
   cases e:vs[i]? with
   | none=>rw [e] at h2;cases h2
   | some a=>rw [e] at h2;cases h2;rfl
  obtain⟨u,hu,rv⟩:=r.get ha
  have hp:ps[i]?=some y:=by
   rw [←S.pre,List.getElem?_take_of_lt ⋯];exact h1
  have ndP:ps.Nodup:=by rw [←S.pre];exact S.nd.sublist (List.take_sublist _ _)
  refine⟨u,rv,?_⟩
  rcases S.par y (eR hp) with k | k
  ·exact .inl ⟨k,D1 ndP hp hu k⟩
  ·obtain⟨c,e⟩:=F6 (n:=s.heap.objs.size+1) k
   refine .inr ⟨.inl k,c,e,?_⟩
   have q:=x.cell y c e
   rw [DZ ndP hp hu (by show scope.names.lookup y≠_;rw [k];decide)] at q
   exact q
 ·exact e0.hok.fresh (Nat.le_of_lt (x.above y c (i8 h)))
 ·unfold start
  show _=N.length
  rw [bZ,aD,J2]
  omega
theorem N6 {CX:Ll} {P:Program} {w:World} {K:PySem.W.Frag} {mg:Str→Option Value} {base:Heap} {k:Nat} {f:Addr} {name qual:Str} {params:Arguments} {body:List Stmt} {scope:Scope} {dV kV doc pm cdv ct oc:Value} {an od:Option Addr}
  {osl:Array (Option Value)} {N ps:List Str} {sp:Sp} (lk:K.lookup f=some ⟨oc,od,.func (PySem.W.fnOf name qual params body scope dV kV doc pm an cdv ct),osl⟩) (hcd:PySem.W.codeIn K cdv qual=true) (S:ap N ps scope)
  (len:∀vs H Q E,sp vs H Q E→vs.length=ps.length)
  (hbody:∀(A:Around) (outer:List Env) (s:Shared) (H:Hp) (vs:List V) (Q:VK) (E:XK),eU k (A.deeper (envOfC qual scope s.heap.objs.size f cdv))→sp vs H Q E→
   ∃t,HS (ER CX P w K mg base N qual scope f cdv A outer s H E) body t∧t {nx:=fun _ H'=>Q .non H',rt:=Q} (start N vs) H):
  j1 P w K mg base CX (k+1) f (PySem.W.fnOf name qual params body scope dV kV doc pm an cdv ct) ps sp:=by
 refine⟨len,fun A outer s H args us vs Q E hr e0 hb r hsp=>?_⟩
 have hl:=len _ _ _ _ hsp
 have KX:K.In s.heap:=e0.mod.kin.keeps fun b o e=>(e0.bs b o e).1
 have lim:s.heap.NoLimit:=e0.mod.nolimit.keeps fun b o e=>(e0.bs b o e).1
 have hkind:∀y∈ps.zip us,scope.names.lookup y.1=some .local∨(scope.names.lookup y.1=some .cell∧((cellsFrom (s.heap.objs.size+1) scope.names []).lookup y.1).isSome=true):=fun⟨n,v⟩ hy=>by
  rcases S.par n (List.of_mem_zip hy).1 with q | q
  ·exact .inl q
  ·exact .inr ⟨q,PySem.W.cellsFrom_some _ _ _ (.inl q)⟩
 refine codeAny_call_function hr.depth (KX _ _ lk) rfl S.co S.gen rfl (PySem.W.codeRec_of KX hcd) (hb _ _ _ _ ?_)
 refine wpAny_newFunctionEnv_cells S.kind hkind fun env he s1 x=>?_
 subst he
 refine⟨lim.keeps x.toInCall.keep,codeAny_func ?_⟩
 obtain⟨t,ht,hq⟩:=hbody A outer s H vs Q E (hr.deeper _) hsp
 have I:be (ER CX P w K mg base N qual scope f cdv A outer s H E) [] (start N vs) H s1:=Ko S hr.hd e0 hl r x
 refine kR (ht [] s1 (start N vs) H _ I hq) (fun fl s' hs=>?_) fun e s' hs=>hs
 have fin:∀{σ':St} {H':Hp} {v:V} {u:Value},be (ER CX P w K mg base N qual scope f cdv A outer s H E) [] σ' H' s'→cZ v u→Q v H'→CE outer P w H s Q u s':=
  fun {σ' H' v u} J rv q=>⟨v,H',J.os,J.bare,J.base,J.hok,rv,q⟩
 cases fl with
 | ret u=>
  obtain⟨v,σ',H',J,rv,q⟩:=hs
  exact fin J rv q
 | next=>
  obtain⟨σ',H',J,q⟩:=hs
  exact fin (v:=V.non) (u:=Value.none) J rfl q
 | brk=>
  obtain⟨_,_,_,q⟩:=hs
  exact False.elim q
 | cont=>
  obtain⟨_,_,_,q⟩:=hs
  exact False.elim q
end L2
namespace L2
open PySem PySem.Spec PyProof.Rows
section
variable {X:Cx} {x:Str} {p pos:Pos} {e:Expr} {es:List Expr} {t:TA} {id T:String} {r:List V→Hp→VK→Prop}
def Rp (r:List V→Hp→VK→Prop) (t:TA):TE:=fun σ H Q=>t σ H fun vs H1=>r vs H1 Q
theorem a9 (hc:rR X (.builtin id) r) (hg:Gl X x) (hm:X.mg x=none) (hv:bootBuiltins x=some (.builtin id)) (ha:PA X (e::es) t) (hn:x≠"__name__":=by decide) (hdb:(x==("__debug__":Str))=false:=by decide)
  (he:starEach (e::es) X.env=(false,eval e X.env)::starEach es X.env:=by rfl) (hpl:(backTo pos (starEach es X.env)).any (·.1)=false:=by rfl):PE X (.Call (.Name x p) (e::es) [] pos) (Rp r t):=by
 intro pins s σ H Q I h
 refine wV (v8 I hg hm hv ?_ hn hdb)
 exact PyProof.Rows.callWith_builtin1 (eS (ha pos pins s σ H _ I h) fun us s1 ⟨vs,H1,I1,r1,q1⟩=>hc pins s1 σ H1 vs us Q I1 r1 q1) he hpl
theorem pb (hc:rR X (.type T) r) (hg:Gl X x) (hm:X.mg x=none) (hv:bootBuiltins x=some (.type T)) (ha:PA X (e::es) t) (hn:x≠"__name__":=by decide) (hdb:(x==("__debug__":Str))=false:=by decide)
  (he:starEach (e::es) X.env=(false,eval e X.env)::starEach es X.env:=by rfl) (hpl:(backTo pos (starEach es X.env)).any (·.1)=false:=by rfl):PE X (.Call (.Name x p) (e::es) [] pos) (Rp r t):=by
 intro pins s σ H Q I h
 refine wV (v8 I hg hm hv ?_ hn hdb)
 exact C2 (eS (ha pos pins s σ H _ I h) fun us s1 ⟨vs,H1,I1,r1,q1⟩=>hc pins s1 σ H1 vs us Q I1 r1 q1) he hpl
end
end L2
namespace HT
open PySem PyProof.Rows
section
open PySem.SeqAt
open PySem.AutoSeq1 (wpAny_loadPart')
open PySem.MeetsSeq PySem.MeetsSeq2 PySem.MeetsSeq3
end
section
variable {prog:Program} {w:World} {A:Around} {E:Value→Shared→Prop} {s:Shared}
def sIx (n d:Nat):Option Int→Nat
 | none=>d
 | some v=>if v<0 then(v+(n:Int)).toNat else min v.toNat n
end
end HT
namespace L2
open PySem PySem.Spec PyProof.Rows
abbrev TO:=St→Hp→(Option Int→Hp→Prop)→Prop
def PO (X:Cx) (e:Option Expr) (t:TO):Prop:=
 ∀(pins:List (Addr×Obj)) (s:Shared) (σ:St) (H:Hp) (Q:Option Int→Hp→Prop),be X pins σ H s→t σ H Q→
  wpAny (model X.prog X.w) X.A (evalPart e X.env) (fun u s'=>∃o H',be X pins σ H' s'∧IsPart u o∧Q o H') X.xe s
def NV:TO:=fun _ H Q=>Q none H
def Qh (t:TE):TO:=fun σ H Q=>t σ H fun x H1=>∃i,x= .int i∧Q (some i) H1
section
variable {X:Cx} {e:Expr} {te:TE} {lo hi:Option Expr} {tl th:TO} {pos p2:Pos}
theorem NG:PO X none NV:=by
 intro pins s σ H Q I h
 rw [evalPart_none]
 exact dR ⟨none,H,I,.none,h⟩
theorem qJ (h:PE X e te):PO X (some e) (Qh te):=by
 intro pins s σ H Q I hw
 rw [evalPart_some]
 refine eS (h pins s σ H _ I hw) fun u s1 ⟨x,H1,I1,r1,q1⟩=>?_
 obtain⟨i,rfl,q⟩:=q1
 obtain⟨t,rfl⟩:=r1
 exact⟨some i,H1,I1,.int i t,q⟩
def Qy (X:Cx) (r:V→Option Int→Option Int→Hp→VK→Prop):Prop:=
 ∀(pins:List (Addr×Obj)) (s:Shared) (σ:St) (H:Hp) (x:V) (v vl vu:Value) (lo hi:Option Int) (sl:Addr) (Q:VK),be X pins σ H s→cZ x v→s.heap.IsSliceOf sl vl vu .none→IsPart vl lo→IsPart vu hi→r x lo hi H Q→
  ∃T id,typeLookup (.type T) "__getitem__"=pure (some (.builtin id))∧s.TypeIs v T∧wpAny (model X.prog X.w) X.A (getItem v (.ref sl)) (EP X pins σ Q) X.xe s
def RB (r:V→Option Int→Option Int→Hp→VK→Prop) (te:TE) (tl th:TO):TE:=fun σ H Q=>te σ H fun x H1=>tl σ H1 fun l H2=>th σ H2 fun u H3=>r x l u H3 Q
theorem xM {r:V→Option Int→Option Int→Hp→VK→Prop} (hr:Qy X r) (he:PE X e te) (hl:PO X lo tl) (hu:PO X hi th):PE X (.Subscript e (.Slice lo hi none p2) pos) (RB r te tl th):=by
 intro pins s σ H Q I h
 refine Subscript_ (eS (he pins s σ H _ I h) fun v s1 ⟨x,H1,I1,r1,q1⟩=>?_)
 refine wpAny_Slice (eS (hl pins s1 σ H1 _ I1 q1) fun vl s2 ⟨l,H2,I2,pl,q2⟩=>eS (hu pins s2 σ H2 _ I2 q2) fun vu s3 ⟨u,H3,I3,pu,q3⟩=>?_)
 rw [evalPart_none]
 refine dR ?_
 have I4:be X pins σ H3 {s3 with heap:=s3.heap.push {cls:= .type "slice",data:= .fields #[vl,vu,.none]}}:=I3.kept (t':=s3.toks) fun b ob q=>i9 _ q
 obtain⟨T,id,hT,ht,hg⟩:=hr pins {s3 with heap:=s3.heap.push {cls:= .type "slice",data:= .fields #[vl,vu,.none]}} σ H3 x v vl vu l u s3.heap.objs.size Q I4 r1 (Heap.IsSliceOf.new ..) pl pu q3
 show wpAny (model X.prog X.w) X.A (subscriptTail e (.Slice lo hi none p2) v (.ref s3.heap.objs.size)) (EP X pins σ Q) X.xe {s3 with heap:=s3.heap.push {cls:= .type "slice",data:= .fields #[vl,vu,.none]}}
 exact tail_any (ops:= [.ref s3.heap.objs.size,v]) ht hT hg (by with_unfolding_all rfl)
def vi (xs:List V) (lo hi:Option Int):List V:=(xs.drop (HT.sIx xs.length 0 lo)).take (HT.sIx xs.length xs.length hi - HT.sIx xs.length 0 lo)
theorem F9 (xs:List V) (lo hi:Option Int):(vi xs lo hi).length≤xs.length:=by
 unfold vi
 rw [ii,C9]
 omega
end
end L2
namespace L2
open PySem PySem.Spec PyProof.Rows
def M5 (n:Nat) (i:Int):Option Nat:=if 0≤i then(if i<n then some i.toNat else none) else if -(n:Int)≤i then some (i+n).toNat else none
def Lk {α:Type} (xs:List α) (i:Int):Option α:=(M5 xs.length i).bind fun j=>xs[j]?
theorem Jv {n:Nat} {i:Int} {j:Nat} (h:M5 n i=some j):seqIndex? i n=some j∧j<n∧-(n:Int)≤i∧i<n:=by
 unfold M5 at h
 by_cases h0:0≤i
 ·rw [if_pos h0] at h
  by_cases h1:i<n
  ·rw [if_pos h1] at h
   have e:i.toNat=j:=bG h
   exact⟨by rw [seqIndex_of h0 h1,e],⋯,⋯,h1⟩
  ·rw [if_neg h1] at h;cases h
 ·rw [if_neg h0] at h
  by_cases h1: -(n:Int)≤i
  ·rw [if_pos h1] at h
   have e:(i+n).toNat=j:=bG h
   exact⟨by rw [seqIndex_neg ⋯ h1,e],⋯,h1,⋯⟩
  ·rw [if_neg h1] at h;cases h
theorem Na {α:Type} {xs:List α} {i:Int} {v:α} (h:Lk xs i=some v):∃j,seqIndex? i xs.length=some j∧xs[j]?=some v∧j<xs.length∧-(xs.length:Int)≤i∧i<xs.length:=by
 unfold Lk at h
 cases e:M5 xs.length i with
 | none=>rw [e] at h;cases h
 | some j=>
  rw [e] at h
  obtain⟨h1,h2,h3,h4⟩:=Jv e
  exact⟨j,h1,h,h2,h3,h4⟩
theorem Nb {α:Type} {xs:List α} {j:Nat} {v:α} (h:xs[j]?=some v):Lk xs (j:Int)=some v:=by
 have hj:j<xs.length:=(cg.mp h).1
 have e:M5 xs.length (j:Int)=some j:=by
  unfold M5
  rw [if_pos ⋯,if_pos ⋯];simp
 unfold Lk;rw [e];exact h
def Jf (b:Expr):Prop:=∀o i,subscripted b false o i=operate [o,i] (getItem o i)
def Qv (X:Cx) (r:R2):Prop:=
 ∀(value slice:Expr) (pins:List (Addr×Obj)) (s:Shared) (σ:St) (H:Hp) (x y:V) (v u:Value) (Q:VK),be X pins σ H s→cZ x v→cZ y u→r x y H Q→
  subscripted slice false v u=operate [v,u] (getItem v u)→wpAny (model X.prog X.w) X.A (subscriptTail value slice v u) (EP X pins σ Q) X.xe s
def Rs (X:Cx) (id:String) (r:V→List V→Hp→VK→Prop):Prop:=
 ∀(pins:List (Addr×Obj)) (s:Shared) (σ:St) (H:Hp) (x:V) (xs:List V) (v:Value) (us:List Value) (Q:VK),be X pins σ H s→cZ x v→bO xs us→r x xs H Q→
  wpAny (model X.prog X.w) X.A (call (.builtin id) (v::us)) (EP X pins σ Q) X.xe s
section
variable {X:Cx} {a b:Expr} {ta tb:TE} {pos:Pos}
theorem GM {r:R2} (hr:Qv X r) (ha:PE X a ta) (hb:PE X b tb) (hs:Jf b):PE X (.Subscript a b pos) (Qg r ta tb):=by
 intro pins s σ H Q I h
 exact Subscript_ (Ov ha hb I h fun v u s2 x y H2 I2 rx ry q=>hr a b pins s2 σ H2 x y v u Q I2 rx ry q (hs _ _))
def O0 (K:PySem.W.Frag):R2:=fun x y H Q=>∃p xs i v,x= .ref p∧y= .int i∧a5 K H p xs∧Lk xs i=some v∧Q v H
theorem Jw:Qv X (O0 X.K):=by
 intro value slice pins s σ H x y v u Q I rx ry h hs
 obtain⟨p,xs,i,z,rfl,rfl,hq,he,q⟩:=h
 cases rx
 obtain⟨t,rfl⟩:=ry
 obtain⟨its,r,pl,hz⟩:=I.list hq
 obtain⟨j,h1,h2,h3,h4,h5⟩:=Na he
 obtain⟨w,ew,rw'⟩:=r.get h2
 have hl:=r.length
 have hn:=BN
 have fin:EP X pins σ Q w s:=⟨z,H,I,rw',q⟩
 by_cases h0:0≤i
 ·have hj:i.toNat=j:=by
   rw [seqIndex_of h0 h5] at h1
   exact bG h1
  exact item_listR pl.isList h0 ⋯ (by rw [hj];simpa using ew) fin hs
 ·have hj:(i+(its.toArray.size:Int)).toNat=j:=by
   rw [seqIndex_neg ⋯ h4] at h1
   rw [fR,←hl]
   exact bG h1
  exact subscriptTail_builtinR (x:=w) pl.isList.typeIs slot_list_getitem.lookup
   (wpAny_getItem_list_neg (Q:=fun r s'=>r=w∧EP X pins σ Q r s') pl.isList ⋯ (by rw [fR]<;>omega) ⋯ (by rw [hj];simpa using ew) ⟨rfl,fin⟩) hs
theorem Ii (its:List Value) (n j:Nat) (u:Value):Obj.mapSeq (·.setIfInBounds j u) {cls:= .type "list",data:= .seq its.toArray n}={cls:= .type "list",data:= .seq (its.set j u).toArray n}:=by
 simp [Obj.mapSeq]
theorem be.lst {pins:List (Addr×Obj)} {σ:St} {H:Hp} {s:Shared} {p:Addr} {xs:List V} (I:be X pins σ H s) (h:H p=some (.lst xs)):
  ∃(its:List Value) (n:Nat),bO xs its∧s.heap.get? p=some {cls:= .type "list",data:= .seq its.toArray n}∧xs.length≤sizeLine:=by
 obtain⟨z,its,n,r,e⟩:=I.hok p _ h
 exact⟨its,n,r,e,z⟩
theorem be.lstUpd {pins:List (Addr×Obj)} {σ:St} {H:Hp} {s:Shared} {p:Addr} {xs ys:List V} {its its':List Value} {n n':Nat} {f:Obj→Obj} (I:be X pins σ H s) (h:H p=some (.lst xs))
  (ho:s.heap.get? p=some {cls:= .type "list",data:= .seq its.toArray n}) (hf:f {cls:= .type "list",data:= .seq its.toArray n}={cls:= .type "list",data:= .seq its'.toArray n'}) (r:bO ys its') (hz:ys.length≤sizeLine) (t:Nat):
  be X pins σ (bT H p (.lst ys)) {s with heap:=s.heap.update p f,toks:=t}:=by
 have e:(s.heap.update p f).get? p=some {cls:= .type "list",data:= .seq its'.toArray n'}:=by
  rw [Heap.get?_update_self f ho (by rw [hf]<;>rfl),hf]
 refine I.write (x:=p) (e:=p) (by rw [h];trivial) (.inl rfl) (fun b u hb q=>(Heap.get?_update_other _ _ (Ne.symm hb)).trans q) ⟨_,e⟩ ?_
 exact⟨hz,its',n',r,e⟩
def PZ:V→V→V→Hp→(Hp→Prop)→Prop:=fun o i v H Q=>∃p xs k j,o= .ref p∧i= .int k∧H p=some (.lst xs)∧M5 xs.length k=some j∧Q (bT H p (.lst (xs.set j v)))
theorem iJ:Op X PZ:=by
 intro pins s σ H o i v ov iv u Q I ro ri rv h
 obtain⟨p,xs,k,j,rfl,rfl,hp,hj,q⟩:=h
 cases ro
 obtain⟨t,rfl⟩:=ri
 obtain⟨its,n,r,ho,hz⟩:=I.lst hp
 obtain⟨h1,h2,h3,h4⟩:=Jv hj
 have hl:=r.length
 have hn:=BN
 have I':be X pins σ (bT H p (.lst (xs.set j v))) {s with heap:=s.heap.update p (Obj.mapSeq (·.setIfInBounds j u))}:=
  I.lstUpd hp ho (Ii its n j u) (r.set rv j) (by rw [sJ];exact hz) s.toks
 by_cases h0:0≤k
 ·have hk:k.toNat=j:=by
   rw [seqIndex_of h0 h4] at h1
   exact bG h1
  exact PySem.W.ki_setAt ho h0 ⋯ (by rw [fR,←hl];exact h4) (by rw [hk];exact⟨_,I',q⟩)
 ·have hk:(k+(its.toArray.size:Int)).toNat=j:=by
   rw [seqIndex_neg ⋯ h3] at h1
   rw [fR,←hl]
   exact bG h1
  exact PySem.W.ki_setBack ho ⋯ (by rw [fR,←hl];exact h3) ⋯ (by rw [hk];exact⟨_,I',q⟩)
theorem Fu (lo hi:Option Int) (n:Nat):(sliceBounds lo hi none n).1=((HT.sIx n 0 lo:Nat):Int)∧(sliceBounds lo hi none n).2.1=((HT.sIx n n hi:Nat):Int)∧(sliceBounds lo hi none n).2.2=1:=by
 refine⟨?_,?_,rfl⟩
 ·cases lo with
  | none=>simp [sliceBounds,HT.sIx]
  | some i=>
   simp only [sliceBounds,HT.sIx,Option.getD_none,show(1:Int)>0 by decide,if_true]
   by_cases h:i<0
   ·simp only [h,if_true]<;>omega
   ·simp only [h,if_false]<;>omega
 ·cases hi with
  | none=>simp [sliceBounds,HT.sIx]
  | some i=>
   simp only [sliceBounds,HT.sIx,Option.getD_none,show(1:Int)>0 by decide,if_true]
   by_cases h:i<0
   ·simp only [h,if_true]<;>omega
   ·simp only [h,if_false]<;>omega
theorem DG (its:List Value) (lo hi:Option Int):slicePick its.toArray lo hi none=((its.drop (HT.sIx its.length 0 lo)).take (HT.sIx its.length its.length hi - HT.sIx its.length 0 lo)).toArray:=by
 obtain⟨h1,h2,h3⟩:=Fu lo hi its.toArray.size
 unfold slicePick
 rw [h1,h2,h3]
 simp only [sliceRange_one,pick_run,fR]<;>rfl
def P0 (K:PySem.W.Frag):V→Option Int→Option Int→Hp→VK→Prop:=fun x lo hi H Q=>∃a xs,x= .ref a∧a5 K H a xs∧∀p,H p=none→Q (.ref p) (bT H p (.lst (vi xs lo hi)))
theorem Bt:Qy X (P0 X.K):=by
 intro pins s σ H x v vl vu lo hi sl Q I rx hs pl pu h
 obtain⟨a,xs,rfl,hx,q⟩:=h
 cases rx
 obtain⟨its,r,ht,hz⟩:=I.list hx
 have hlen:=r.length
 refine⟨"list",_,slot_list_getitem.lookup,ht.isList.typeIs,?_⟩
 refine wpAny_getItem_list_slice ht.isList hs pl pu .none (by simp) ?_ (by rw [fR]<;>omega)
 rw [DG,←hlen]
 refine⟨.ref s.heap.objs.size,_,I.laid (t':=s.toks) (o:= .lst (vi xs lo hi)) (fun b ob q=>i9 _ q) (bq _) ?_,rfl,q _ (I.hok.fresh (bq _))⟩
 exact⟨fS (F9 xs lo hi) hz,_,0,(r.drop (HT.sIx xs.length 0 lo)).take (HT.sIx xs.length xs.length hi - HT.sIx xs.length 0 lo),vv _ rfl⟩
theorem aW:rR X (.builtin "len") (fun xs H Q=>∃p ys,xs= [.ref p]∧(a5 X.K H p ys∨HU X.K H p ys)∧Q (.int ys.length) H):=by
 intro pins s σ H xs us Q I r h
 obtain⟨p,ys,rfl,hq,q⟩:=h
 obtain⟨u,rfl,rx⟩:=JW r
 cases rx
 have hn:=BN
 rcases hq with hq | hq
 ·obtain⟨its,r',pl,hz⟩:=I.list hq
  have hlen:=r'.length
  exact Calls.call_len_list pl.isList (by simp only [fR]<;>omega) ⟨.int ys.length,H,I.tok _,⟨s.toks+1,by rw [fR,hlen]⟩,q⟩
 ·obtain⟨its,r',pl,hz⟩:=I.tuple hq
  have hlen:=r'.length
  exact len_tuple pl (by simp only [fR]<;>omega) ⟨.int ys.length,H,I.tok _,⟨s.toks+1,by rw [fR,hlen]⟩,q⟩
theorem p9:rR X (.type "list") (fun xs H Q=>∃p ys,xs= [.ref p]∧(a5 X.K H p ys∨HU X.K H p ys)∧∀l,H l=none→Q (.ref l) (bT H l (.lst ys))):=by
 intro pins s σ H xs us Q I r h
 obtain⟨p,ys,rfl,hq,q⟩:=h
 obtain⟨u,rfl,rx⟩:=JW r
 cases rx
 have fin:∀(its:List Value),bO ys its→ys.length≤sizeLine→∀(h':Heap) (c':Nat),(∀b o',s.heap.get? b=some o'→h'.get? b=some o')→
   h'.get? s.heap.objs.size=some {cls:= .type "list",dict:=none,data:= .seq its.toArray c',slots:=#[]}→EP X pins σ Q (.ref s.heap.objs.size) {s with heap:=h'}:=fun its r' hz h' c' kp e=>
  ⟨.ref s.heap.objs.size,_,I.laid (t':=s.toks) kp (bq _) (show iF X.prog X.w _ h' _ (.lst ys) from⟨hz,its,c',r',e⟩),rfl,q _ (I.hok.fresh (bq _))⟩
 rcases hq with hq | hq
 ·obtain⟨its,r',pl,hz⟩:=I.list hq
  have hlen:=r'.length
  obtain⟨o,ho,hc,n,hd⟩:=pl.isList
  exact call_list_seq p (.inl rfl) ho hc hd (fun h' c' kp e=>fin its r' hz h' c' kp e) (by simp only [fR]<;>omega)
 ·obtain⟨its,r',pl,hz⟩:=I.tuple hq
  have hlen:=r'.length
  obtain⟨o,ho,hc,n,hd⟩:=pl
  exact call_list_seq p (.inr rfl) ho hc hd (fun h' c' kp e=>fin its r' hz h' c' kp e) (by simp only [fR]<;>omega)
def Rq (K:PySem.W.Frag) (T:String) (x:V) (H:Hp):Prop:=match x with
 | .str _=>T="str"
 | .int _=>T="int"
 | .ref p=>(T="list"∧∃xs,a5 K H p xs)∨(T="tuple"∧∃o,K.lookup p=some o∧o.cls= .type "tuple"∧o.dict=none)∨
   (T="dict"∧((∃kvs,H p=some (.dK kvs))∨∃kvs,H p=some (.dT kvs)))∨(T="set"∧∃S n,H p=some (.set S n))
 | _=>False
theorem Pb {pins:List (Addr×Obj)} {σ:St} {H:Hp} {s:Shared} {T:String} {x:V} {v:Value} (I:be X pins σ H s) (r:cZ x v) (ty:Rq X.K T x H):
  s.TypeIs v T∧∀a,v= .ref a→∃ob,s.heap.get? a=some ob∧ob.dict=none:=by
 cases x with
 | str z=>
  obtain⟨t,rfl⟩:=r
  cases (show T="str" from ty)
  exact⟨typeIs_str s z t,fun _ e=>nomatch e⟩
 | int i=>
  obtain⟨t,rfl⟩:=r
  cases (show T="int" from ty)
  exact⟨typeIs_int s i t,fun _ e=>nomatch e⟩
 | ref p=>
  cases r
  rcases ty with⟨rfl,xs,hq⟩ | ⟨rfl,o,hk,hc,hd⟩ | ⟨rfl,hk⟩ | ⟨rfl,S,n,hk⟩
  ·obtain⟨its,_,pl,_⟩:=I.list hq
   refine⟨pl.isList.typeIs,fun a e=>?_⟩
   cases e
   obtain⟨o,n,e,c,hd,_⟩:=pl
   exact⟨o,e,hd⟩
  ·refine⟨⟨o,I.kIn p o hk,hc⟩,fun a e=>?_⟩
   cases e
   exact⟨o,I.kIn _ o hk,hd⟩
  ·have z:∃o,s.heap.get? p=some o∧o.ExactDict:=by
    rcases hk with⟨kvs,hk⟩ | ⟨kvs,hk⟩
    ·obtain⟨_,_,_,_,o,_,_,e,ex,_⟩:=I.hok p _ hk
     exact⟨o,e,ex⟩
    ·obtain⟨_,_,_,_,o,_,_,e,ex,_⟩:=I.hok p _ hk
     exact⟨o,e,ex⟩
   obtain⟨o,e,ex⟩:=z
   refine⟨⟨o,e,ex.1⟩,fun a e2=>?_⟩
   cases e2
   exact⟨o,e,ex.2.1⟩
  ·obtain⟨o,_,_,_,e,ex,_⟩:=I.hok p _ hk
   refine⟨⟨o,e,ex.1⟩,fun a e2=>?_⟩
   cases e2
   exact⟨o,e,ex.2.1⟩
 | _=>exact False.elim ty
def Ry (K:PySem.W.Frag) (T:String) (r:V→List V→Hp→VK→Prop) (to:TE) (t:TA):TE:=fun σ H Q=>to σ H fun x H1=>Rq K T x H1∧t σ H1 fun xs H2=>r x xs H2 Q
variable {o e:Expr} {es:List Expr} {to:TE} {t:TA} {name:Str} {apos cpos:Pos} {T id:String} {r:V→List V→Hp→VK→Prop}
theorem rZ (pa:PlainAttrs T) (slot:Slot T name id) (hty:typeOf (.builtin id)=pure (.type "method_descriptor")) (hm:Rs X id r) (ho:PE X o to) (ha:PA X (e::es) t)
  (hbase:attributeBase o name X.env (eval o X.env)=eval o X.env:=by rfl)
  (hfew:((backTo cpos (starEach (e::es) X.env)).all (fun x=> !x.1) && (backToKw cpos (keywordEach [] X.env)).all (fun x=>x.1.isSome)
   && decide ((e::es).length+([]:List Keyword).length+(if ([]:List Keyword).isEmpty then 0 else 1)<30))=true:=by rfl)
  (hline:(apos.endLine==cpos.line)=true:=by rfl) (hs:starEach (e::es) X.env=(false,eval e X.env)::starEach es X.env:=by rfl) (hplain:(backTo cpos (starEach es X.env)).any (·.1)=false:=by rfl):
  PE X (.Call (.Attribute o name apos) (e::es) [] cpos) (Ry X.K T r to t):=by
 intro pins s σ H Q I h
 refine wpAny_Call_method_late hbase hfew hline rfl (eS (ho pins s σ H _ I h) fun v s1 ⟨x,H1,I1,r1,ty,q1⟩=>?_)
 obtain⟨h1,h2⟩:=Pb I1 r1 ty
 refine⟨T,id,pa,slot,hty,h1,h2,?_⟩
 have hA:=ha cpos pins s1 σ H1 _ I1 q1
 rw [hs] at hA⊢
 refine Calls.callWith_builtin (by show(false || (backTo cpos (starEach es X.env)).any (·.1))=false;rw [hplain]<;>rfl) (Calls.evalArgs_plain ?_)
 exact eS hA fun us s2 ⟨vs,H2,I2,r2,q2⟩=>hm pins s2 σ H2 x vs v us Q I2 r1 r2 q2
end
end L2
namespace L2
open PySem PySem.Spec PyProof.Rows
def Rg (X:Cx) (id:String) (r:V→List V→Hp→VK→Prop):Prop:=
 ∀(pins:List (Addr×Obj)) (s:Shared) (σ:St) (H:Hp) (x:V) (xs:List V) (v:Value) (us:List Value) (Q:VK),be X pins σ H s→cZ x v→bO xs us→r x xs H Q→
  wpAny (model X.prog X.w) X.A (call (.builtin id) (v::us)) (EP X pins σ Q) X.xe s
theorem bO.one:∀{x:V} {us:List Value},bO [x] us→∃u,us= [u]∧cZ x u
 | _,_,.cons r .nil=>⟨_,rfl,r⟩
theorem bO.rep {xs:List V} {us:List Value} (h:bO xs us):∀k:Nat,bO (List.replicate k xs).flatten (List.replicate k us).flatten
 | 0=> .nil
 | k+1=>by
  rw [Dd,Dd,HG,HG]
  exact bO.append h (bO.rep h k)
theorem D9 (its:List Value):∀(k:Nat) (acc:List Value),
  List.foldl (fun x1 x2=>x1++x2) acc.toArray (List.replicate k its.toArray)=(acc++(List.replicate k its).flatten).toArray
 | 0,acc=>by simp
 | k+1,acc=>by
  have e:acc.toArray++its.toArray=(acc++its).toArray:=by simp
  have e2:(acc++its)++(List.replicate k its).flatten=acc++(List.replicate (k+1) its).flatten:=by
   rw [Dd,HG,List.append_assoc]
  rw [←e2,←D9 its k (acc++its),←e,Dd,List.foldl_cons]
section
variable {X:Cx} {pins:List (Addr×Obj)} {σ:St} {H:Hp} {s:Shared} {l b:Addr} {xs ys zs:List V}
theorem be.lset {its its':List Value} {n:Nat} {f:Array Value→Array Value} {t':Nat} (I:be X pins σ H s) (hH:H l=some (.lst xs))
  (e:s.heap.get? l=some {cls:= .type "list",data:= .seq its.toArray n}) (hf:f its.toArray=its'.toArray) (hv:bO ys its') (hz:ys.length≤sizeLine):
  be X pins σ (bT H l (.lst ys)) {s with heap:=s.heap.update l (Obj.mapSeq f),toks:=t'}:=by
 have q:=PySem.IsL.update e f
 rw [hf] at q
 refine I.write (x:=l) (e:=l) (by rw [hH];exact trivial) (.inl rfl) (fun b' u hb hu=>(Heap.get?_update_other s.heap (Obj.mapSeq f) (Ne.symm hb)).trans hu) ⟨_,q⟩ ?_
 exact⟨hz,its',_,hv,q⟩
theorem be.lnew {its:List Value} {t':Nat} (I:be X pins σ H s) (hv:bO ys its) (hz:ys.length≤sizeLine):
  be X pins σ (bT H s.heap.objs.size (.lst ys)) {s with heap:=s.heap.push {cls:= .type "list",data:= .seq its.toArray},toks:=t'}:=
 I.laid (fun _ _ q=>i9 _ q) (bq _) ⟨hz,its,0,hv,vv _ rfl⟩
theorem be.fresh (I:be X pins σ H s):H s.heap.objs.size=none:=I.hok.fresh (bq _)
theorem be.lstM (I:be X pins σ H s) (hH:H l=some (.lst xs)):xs.length≤sizeLine∧∃(its:List Value) (n:Nat),bO xs its∧xs.length=its.length∧s.heap.get? l=some {cls:= .type "list",data:= .seq its.toArray n}:=by
 obtain⟨z,its,n,r,e⟩:=I.hok l _ hH
 exact⟨z,its,n,r,r.length,e⟩
theorem Gy {n:Nat} (h:n≤sizeLine):Builtin.List.listTooLong n=false:=by
 unfold Builtin.List.listTooLong
 exact br ⋯
end
section
variable {X:Cx}
def NJ:V→List V→Hp→VK→Prop:=fun x vs H Q=>∃l xs y,x= .ref l∧vs= [y]∧H l=some (.lst xs)∧xs.length<sizeLine∧Q .non (bT H l (.lst (xs++ [y])))
theorem jg:Rg X "list.append" NJ:=by
 intro pins s σ H x vs v us Q I rx rv h
 obtain⟨l,xs,y,rfl,rfl,hH,hz,q⟩:=h
 cases rx
 obtain⟨u,rfl,ru⟩:=rv.one
 obtain⟨z,its,n,r,hl,e⟩:=I.lstM hH
 refine call_meets F.slot_list_append ⟨_,e,rfl⟩ F.entry_list_append (F.args_list_append_2 _ _) (PySem.list_append l its.toArray n u (by rw [fR];omega)) ⟨e,?_⟩
 refine⟨.non,_,I.lset (its':=its++ [u]) hH e (by simp) (r.append (.cons ru .nil)) ?_,rfl,q⟩
 rw [bZ,List.length_singleton]
 omega
def NK:V→List V→Hp→VK→Prop:=fun x vs H Q=>∃l b xs zs,x= .ref l∧vs= [.ref b]∧H l=some (.lst xs)∧H b=some (.lst zs)∧xs.length+zs.length≤sizeLine∧Q .non (bT H l (.lst (xs++zs)))
theorem uW:Rg X "list.extend" NK:=by
 intro pins s σ H x vs v us Q I rx rv h
 obtain⟨l,b,xs,zs,rfl,rfl,hH,hB,hz,q⟩:=h
 cases rx
 obtain⟨u,rfl,ru⟩:=rv.one
 cases ru
 obtain⟨z,its,n,r,hl,e⟩:=I.lstM hH
 obtain⟨z2,its2,n2,r2,hl2,e2⟩:=I.lstM hB
 have hsz:its.toArray.size+its2.toArray.size≤sizeLine:=by rw [fR,fR];omega
 have hlong:¬(!its.toArray.isEmpty && Builtin.List.listTooLong (its.toArray.size+its2.toArray.size))=true:=by
  rw [Gy hsz,Bool.and_false]
  exact uI
 refine call_meets F.slot_list_extend ⟨_,e,rfl⟩ F.entry_list_extend (F.args_list_extend_2 _ _)
  (AutoSeq1.list_extend_list_list_0 l its.toArray n b its2.toArray n2 hlong (by rw [fR];omega) ⋯) ⟨e,e2,?_⟩
 refine⟨.non,_,I.lset (its':=its++its2) hH e (by simp) (r.append r2) ?_,rfl,q⟩
 rw [bZ]
 omega
def QU:R2:=fun x y H Q=>∃l b xs zs,x= .ref l∧y= .ref b∧H l=some (.lst xs)∧H b=some (.lst zs)∧xs.length+zs.length≤sizeLine∧∀p,H p=none→Q (.ref p) (bT H p (.lst (xs++zs)))
theorem fe:By X (binaryOp .Add) QU:=by
 intro pins s σ H x y v u Q I rx ry h
 obtain⟨l,b,xs,zs,rfl,rfl,hH,hB,hz,q⟩:=h
 cases rx
 cases ry
 obtain⟨z,its,n,r,hl,e⟩:=I.lstM hH
 obtain⟨z2,its2,n2,r2,hl2,e2⟩:=I.lstM hB
 refine PySem.P.add_list e e2 ?_ (by rw [fR,fR];omega)
 have ea:its.toArray++its2.toArray=(its++its2).toArray:=by simp
 rw [ea]
 exact⟨.ref _,_,I.lnew (t':=s.toks) (r.append r2) (by rw [bZ];omega),rfl,q _ I.fresh⟩
def QW:R2:=fun x y H Q=>∃l k xs,x= .ref l∧y= .int k∧H l=some (.lst xs)∧-(2 ^ 63)≤k∧k<2 ^ 63∧xs.length*k.toNat≤sizeLine∧
 ∀p,H p=none→Q (.ref p) (bT H p (.lst (List.replicate k.toNat xs).flatten))
theorem No {α:Type} (xs:List α) (k:Nat):(List.replicate k xs).flatten.length=k*xs.length:=by
 induction k with
 | zero=>simp
 | succ k ih=>rw [Dd,HG,bZ,ih,Nat.succ_mul,Nat.add_comm]
theorem Mh:By X (binaryOp .Mult) QW:=by
 intro pins s σ H x y v u Q I rx ry h
 obtain⟨l,k,xs,rfl,rfl,hH,h1,h2,hz,q⟩:=h
 cases rx
 obtain⟨t,rfl⟩:=ry
 obtain⟨z,its,n,r,hl,e⟩:=I.lstM hH
 have hlen:its.toArray.size*k.toNat≤sizeLine:=by rw [fR,←hl];exact hz
 have hcap:¬its.toArray.size*k.toNat>(2 ^ 63 - 1) /8:=by
  have:(sizeLine:Nat)≤(2 ^ 63 - 1) /8:=by decide
  omega
 have hfit:¬(!Builtin.List.listFitsIndex k)=true:=by
  rw [fitsIndex_both h1 h2]
  exact uI
 have hlong:¬Builtin.List.listTooLong (its.toArray.size*k.toNat)=true:=by
  rw [Gy hlen]
  exact uI
 have hnew:List.foldl (fun x1 x2=>x1++x2) #[] (List.replicate (if its.toArray.isEmpty=true then 0 else k.toNat) its.toArray)=(List.replicate k.toNat its).flatten.toArray:=by
  have f0:∀m:Nat,List.foldl (fun x1 x2=>x1++x2) #[] (List.replicate m its.toArray)=(List.replicate m its).flatten.toArray:=fun m=>by
   have:=D9 its m []
   rw [HJ] at this
   exact this
  rw [f0]
  cases its with
  | nil=>simp
  | cons a r'=>rw [if_neg (by simp)]
 refine wpAny_binaryOp_repeat_ref (T:="list") (U:="int") () ⟨_,e,rfl⟩ (fun s'=>typeIs_int s' k t) noFill_list_mul F.fills_int_mul F.slot_int_rmul repeat_list F.slot_int_index.lookup
  (call_meets F.slot_int_rmul (typeIs_int s k t) F.entry_int_rmul (F.args_int_rmul_2 _ _) (int___rmul___int_list k t l its.toArray n)
   ⟨e,rfl,⟨_,e,rfl⟩,call_meets F.slot_list_mul ⟨_,e,rfl⟩ F.entry_list_mul (F.args_list_mul_2 _ _) (AutoListH.list___mul___list_int_3 l its.toArray n k t hfit hcap hlong) ⟨e,?_⟩⟩)
 rw [hnew]
 exact⟨.ref _,_,I.lnew (t':=s.toks) (r.rep k.toNat) (by rw [No,Nat.mul_comm];exact hz),rfl,q _ I.fresh⟩
end
section
variable {prog:Program} {w:World} {A:Around} {E:Value→Shared→Prop} {s:Shared}
set_option maxRecDepth 100000 in
end
section
variable {X:Cx}
end
end L2
namespace L2
open PySem PySem.Spec PyProof.Rows
theorem bO.ints:∀{ns:List Int} {us:List Value},bO (ns.map V.int) us→IntsAre us ns
 | [],us,h=>by
  rw [List.map_nil] at h
  cases h
  exact IntsAre.nil
 | n::ns,us,h=>by
  rw [e9] at h
  cases h with
  | cons r t=>
   obtain⟨k,rfl⟩:=r
   exact IntsAre.cons n k (bO.ints t)
theorem bO.bls:∀{bs:List Bool} {us:List Value},bO (bs.map V.bl) us→us=bs.map Value.bool
 | [],us,h=>by
  rw [List.map_nil] at h
  cases h
  rfl
 | b::bs,us,h=>by
  rw [e9] at h
  cases h with
  | cons r t=>
   cases r
   rw [bO.bls t,e9]
theorem bO.ref1 {a:Addr} {us:List Value} (r:bO [V.ref a] us):us= [Value.ref a]:=by
 cases r with
 | cons r t=>
  cases t
  cases r
  rfl
section
variable {prog:Program} {w:World} {A:Around} {E:Value→Shared→Prop} {s:Shared} {l:Addr} {its:List Value} {ns:List Int} {Q:Value→Shared→Prop}
theorem NT (hh:A.handled=none) (hl:s.heap.IsList l its.toArray) (hi:IntsAre its ns)
  (h:∀h' tk t',(∀b o,s.heap.get? b=some o→h'.get? b=some o)→Q (.int ns.sum t') {s with heap:=h',toks:=tk}):wpAny (model prog w) A (call (.builtin "sum") [.ref l]) Q E s:=by
 obtain⟨xs,e⟩:=hi.allInts.items
 have hn:numsOf (intItems xs).toList=ns:=by rw [←e];exact hi.numsOf
 rw [nums_intItems] at hn
 rw [e] at hl
 refine PySem.sum_intListG hh hl fun h' tk t' hk=>?_
 have:=h h' tk t' hk
 rw [preSum_eq,lD (by simp),hn];exact this
theorem Qr (hh:A.handled=none) (hl:s.heap.IsList l its.toArray) (hi:IntsAre its ns) (hne:0<ns.length)
  (h:∀h' tk M t',(∀b o,s.heap.get? b=some o→h'.get? b=some o)→M∈ns→(∀a,a∈ns→a≤M)→Q (.int M t') {s with heap:=h',toks:=tk}):wpAny (model prog w) A (call (.builtin "max") [.ref l]) Q E s:=by
 obtain⟨xs,e⟩:=hi.allInts.items
 have hn:numsOf (intItems xs).toList=ns:=by rw [←e];exact hi.numsOf
 rw [nums_intItems] at hn
 subst hn
 rw [e] at hl
 have hsz:0<xs.size:=by simpa using hne
 refine PySem.max_intList hh hl hsz fun v h' tk hv hk=>?_
 obtain⟨t,rfl⟩:=intItems_at hv
 obtain⟨h1,h2⟩:=argBest_gt (numAt xs) (xs.size - 1)
 refine h h' tk _ t hk ?_ fun a ha=>?_
 ·rw [numAt_eq];exact PySem.getD_mem (by rw [aD,HB];omega)
 ·obtain⟨j,hj,rfl⟩:=mem_getD ha
  rw [aD,HB] at hj
  rw [←numAt_eq];exact h2 j ⋯
theorem Nr (hh:A.handled=none) (hl:s.heap.IsList l its.toArray) (hi:IntsAre its ns) (hne:0<ns.length)
  (h:∀h' tk M t',(∀b o,s.heap.get? b=some o→h'.get? b=some o)→M∈ns→(∀a,a∈ns→M≤a)→Q (.int M t') {s with heap:=h',toks:=tk}):wpAny (model prog w) A (call (.builtin "min") [.ref l]) Q E s:=by
 obtain⟨xs,e⟩:=hi.allInts.items
 have hn:numsOf (intItems xs).toList=ns:=by rw [←e];exact hi.numsOf
 rw [nums_intItems] at hn
 subst hn
 rw [e] at hl
 have hsz:0<xs.size:=by simpa using hne
 refine PySem.min_intList hh hl hsz fun v h' tk hv hk=>?_
 obtain⟨t,rfl⟩:=intItems_at hv
 obtain⟨h1,h2⟩:=argBest_lt (numAt xs) (xs.size - 1)
 refine h h' tk _ t hk ?_ fun a ha=>?_
 ·rw [numAt_eq];exact PySem.getD_mem (by rw [aD,HB];omega)
 ·obtain⟨j,hj,rfl⟩:=mem_getD ha
  rw [aD,HB] at hj
  rw [←numAt_eq];exact h2 j ⋯
end
section
variable {X:Cx}
def QX (K:PySem.W.Frag):List V→Hp→VK→Prop:=fun vs H Q=>∃(a:Addr) (ns:List Int),vs= [V.ref a]∧a5 K H a (ns.map V.int)∧Q (.int ns.sum) H
def QV (K:PySem.W.Frag):List V→Hp→VK→Prop:=fun vs H Q=>∃(a:Addr) (ns:List Int),vs= [V.ref a]∧a5 K H a (ns.map V.int)∧0<ns.length∧∀m,m∈ns→(∀y,y∈ns→m≤y)→Q (.int m) H
theorem EQ (hc:X.calm=true):rR X (.builtin "sum") (QX X.K):=by
 intro pins s σ H vs us Q I r h
 obtain⟨a,ns,rfl,hs,q⟩:=h
 obtain⟨its,rv,hl,_⟩:=I.list hs
 rw [bO.ref1 r]
 exact NT (I.ok.hd hc) hl.isList rv.ints fun h' tk t' hk=>⟨.int _,H,I.kept hk,⟨_,rfl⟩,q⟩
theorem Oy (hc:X.calm=true):rR X (.builtin "min") (QV X.K):=by
 intro pins s σ H vs us Q I r h
 obtain⟨a,ns,rfl,hs,hne,q⟩:=h
 obtain⟨its,rv,hl,_⟩:=I.list hs
 rw [bO.ref1 r]
 exact Nr (I.ok.hd hc) hl.isList rv.ints hne fun h' tk m t' hk h1 h2=>⟨.int _,H,I.kept hk,⟨_,rfl⟩,q m h1 h2⟩
end
section
variable {X:Cx}
end
section
variable {X:Cx}
end
theorem Gk {prog:Program} {w:World} {A:Around} {E:Value→Shared→Prop} {s:Shared} {l:Addr} {items:Array Value} {Q:Value→Shared→Prop} (hl:s.heap.IsList l items)
  (h:∀s₂:Shared,s₂={s with heap:=s.heap.push {cls:= .type "list_iterator",data:= .fields #[.ref l,.int 0 0]}}→
   (s₂.heap.IsListIter s.heap.objs.size l 0∧s₂.heap.IsList l items)→l≠s.heap.objs.size→Q (.ref s.heap.objs.size) s₂):wpAny (model prog w) A (pyIter (.ref l)) Q E s:=by
 have hlt:l<s.heap.objs.size:=by obtain⟨_,e,_⟩:=hl;exact fo e
 exact wpAny_pyIter_list hl (h _ rfl ⟨⟨_,vv _ rfl,rfl,rfl⟩,hl.push _⟩ (fm hlt))
theorem Aw {prog:Program} {w:World} {A:Around} {bs:List Bool} {its:List Value} (e:its=bs.map Value.bool):
  TruthOf prog w A (fun i v=>its.toArray[i]?=some v) (fun i=>bs.getD i false):=fun i v s Q E hv hq=>by
 have hv':its[i]?=some v:=by simpa using hv
 rw [e,du] at hv'
 obtain⟨b,hb,rfl⟩:=mW.mp hv'
 have hg:bs.getD i false=b:=by rw [e8,hb]<;>rfl
 have hq':Q (bs.getD i false) s:=hq
 rw [hg] at hq'
 exact wX hq'
theorem DX:∀bs:List Bool,(List.range bs.length).any (fun i=>bs.getD i false)=bs.any id
 | []=>rfl
 | b::bs=>by
  rw [d8,J3,List.any_cons,List.any_map,List.any_cons,←DX bs]
  all_goals rfl
theorem DU:∀bs:List Bool,(List.range bs.length).all (fun i=>bs.getD i false)=bs.all id
 | []=>rfl
 | b::bs=>by
  rw [d8,J3,C7,List.all_map,C7,←DU bs]
  all_goals rfl
section
variable {X:Cx}
def QT (K:PySem.W.Frag):List V→Hp→VK→Prop:=fun vs H Q=>∃(a:Addr) (bs:List Bool),vs= [V.ref a]∧a5 K H a (bs.map V.bl)∧Q (.bl (bs.any id)) H
def QS (K:PySem.W.Frag):List V→Hp→VK→Prop:=fun vs H Q=>∃(a:Addr) (bs:List Bool),vs= [V.ref a]∧a5 K H a (bs.map V.bl)∧Q (.bl (bs.all id)) H
theorem Ox (hc:X.calm=true):rR X (.builtin "any") (QT X.K):=by
 intro pins s σ H vs us Q I r h
 obtain⟨a,bs,rfl,hs,q⟩:=h
 obtain⟨its,rv,hl,_⟩:=I.list hs
 rw [bO.ref1 r]
 have hb:=rv.bls
 refine call_any_walk (Gk hl.isList fun s₂ e2 st hne=>?_)
 subst e2
 refine⟨_,_,_,_,_,_,_,rfl,Walks.list (A:=X.A.in1) (I.ok.hd hc) _ a hne its.toArray,st,Aw hb,fun h' tk hk=>?_⟩
 refine⟨.bl _,H,I.kept fun b o eo=>hk b o (fun hmem=>?_) (i9 _ eo),?_,q⟩
 ·rcases cH.mp hmem with e1 | hmem
  ·exact absurd (e1▸fo eo) (sM _)
  ·cases hmem
 ·show Value.bool _=Value.bool _
  rw [←DX,hb,fR,aD]
theorem Ow (hc:X.calm=true):rR X (.builtin "all") (QS X.K):=by
 intro pins s σ H vs us Q I r h
 obtain⟨a,bs,rfl,hs,q⟩:=h
 obtain⟨its,rv,hl,_⟩:=I.list hs
 rw [bO.ref1 r]
 have hb:=rv.bls
 refine call_all_walk (Gk hl.isList fun s₂ e2 st hne=>?_)
 subst e2
 refine⟨_,_,_,_,_,_,_,rfl,Walks.list (A:=X.A.in1) (I.ok.hd hc) _ a hne its.toArray,st,Aw hb,fun h' tk hk=>?_⟩
 refine⟨.bl _,H,I.kept fun b o eo=>hk b o (fun hmem=>?_) (i9 _ eo),?_,q⟩
 ·rcases cH.mp hmem with e1 | hmem
  ·exact absurd (e1▸fo eo) (sM _)
  ·cases hmem
 ·show Value.bool _=Value.bool _
  rw [←DU,hb,fR,aD]
end
section
variable {X:Cx} {pins:List (Addr×Obj)} {σ:St} {H:Hp} {s:Shared}
end
section
variable {X:Cx}
end
end L2
namespace L2
open PySem PySem.Spec PyProof.Rows
abbrev Lm (h:Heap) (c:Addr) (v:Option Value):Prop:=h.IsCell c v
def QY (scope sc:Scope):Scope:=
 {scope with names:=scope.names.map fun(n,k)=>if (k== .free && sc.kind== .function && sc.names.lookup n==some .cell) then(n,.cell) else(n,k)}
def dG (cells:List (Str×Addr)):List (Str×NameKind)→List (Str×Addr)→List (Str×Addr)
 | [],acc=>acc
 | (n,k)::r,acc=>if k== .free then dG cells r ((n,(cells.lookup n).getD 0)::acc) else dG cells r acc
theorem xm (env:Env) (f:Str×NameKind→List (Str×Addr)→Sem (ForInStep (List (Str×Addr))))
  (hf:∀n k c,f (n,k) c=if k== .free then(do let a ←cellOf env n;pure (.yield ((n,a)::c))) else pure (.yield c)):
  ∀(names:List (Str×NameKind)) (acc:List (Str×Addr)),(∀y∈names,y.2= .free→∃c,env.cells.lookup y.1=some c)→forIn names acc f=pure (dG env.cells names acc)
 | [],acc,_=>by rw [List.forIn_nil];rfl
 | (n,k)::r,acc,h=>by
  rw [List.forIn_cons,hf]
  have ih:=fun acc=>xm env f hf r acc fun y hy=>h y (dX _ hy)
  unfold dG
  by_cases hk:(k==NameKind.free)=true
  ·rw [if_pos hk,if_pos hk]
   obtain⟨c,hc⟩:=h (n,k) fD (by simpa using hk)
   have e:cellOf env n=pure c:=by unfold cellOf;rw [hc]
   rw [e]
   have e2:(env.cells.lookup n).getD 0=c:=by rw [hc];rfl
   rw [e2]
   exact ih _
  ·rw [if_neg hk,if_neg hk]
   exact ih _
theorem Ia {scope:Scope} {env:Env} (h:∀y∈scope.names,y.2= .free→∃c,env.cells.lookup y.1=some c):closureFor scope env=pure (dG env.cells scope.names []):=by
 simp only [closureFor]
 rw [xm env _ (fun n k c=>rfl) scope.names [] h]
 rfl
theorem wc {α:Type}:∀{l:List (Str×α)} {n:Str} {c:α},(n,c)∈l→∃c',l.lookup n=some c'
 | (k,v)::r,n,c,h=>by
  rw [Da]
  cases hb:n==k with
  | true=>exact⟨_,rfl⟩
  | false=>
   rcases cH.mp h with e | h
   ·cases e;simp at hb
   ·exact wc h
theorem nt {cells:List (Str×Addr)}:∀{names:List (Str×NameKind)} {acc:List (Str×Addr)} {n:Str} {c:Addr},(n,c)∈dG cells names acc→(n,c)∈acc∨((n,.free)∈names∧c=(cells.lookup n).getD 0)
 | [],_,_,_,h=> .inl h
 | (m,k)::r,acc,n,c,h=>by
  unfold dG at h
  split at h
  ·rename_i hk
   have hk:k= .free:=by simpa using hk
   rcases nt h with h | ⟨h1,h2⟩
   ·rcases cH.mp h with e | h
    ·cases e;exact .inr ⟨hk▸fD,rfl⟩
    ·exact .inl h
   ·exact .inr ⟨dX _ h1,h2⟩
  ·rcases nt h with h | ⟨h1,h2⟩
   ·exact .inl h
   ·exact .inr ⟨dX _ h1,h2⟩
theorem tH {cells:List (Str×Addr)}:∀{names:List (Str×NameKind)} {acc:List (Str×Addr)} {p:Str×Addr},p∈acc→p∈dG cells names acc
 | [],_,_,h=>h
 | (m,k)::r,acc,p,h=>by
  unfold dG
  split
  ·exact tH (dX _ h)
  ·exact tH h
theorem tI {cells:List (Str×Addr)}:∀{names:List (Str×NameKind)} {acc:List (Str×Addr)} {n:Str},(n,.free)∈names→(n,(cells.lookup n).getD 0)∈dG cells names acc
 | (m,k)::r,acc,n,h=>by
  unfold dG
  rcases cH.mp h with e | h
  ·cases e
   exact tH fD
  ·split
   ·exact tI h
   ·exact tI h
theorem oO:∀{names:List (Str×NameKind)} {h:Heap} {acc:List (Str×Addr)} {x:Str} {c:Addr},(x,c)∈cellsFrom h.objs.size names acc→
  (x,c)∈acc∨((x,.cell)∈names∧h.objs.size≤c∧Lm (pushCells h names) c none)
 | [],_,_,_,_,h=> .inl h
 | (n,k)::r,h,acc,x,c,hm=>by
  unfold cellsFrom at hm
  unfold pushCells
  split at hm
  ·rename_i hk
   rw [if_pos hk]
   have hk:k= .cell:=by simpa using hk
   rw [←Bh h {cls:= .type "cell",data:= .cell none}] at hm
   rcases oO hm with hm | ⟨h1,h2,h3⟩
   ·rcases cH.mp hm with e | hm
    ·cases e
     exact .inr ⟨hk▸fD,bq _,_,pushCells_keeps r _ _ _ (vv _ rfl),rfl⟩
    ·exact .inl hm
   ·rw [Bh] at h2
    exact .inr ⟨dX _ h1,Nat.le_of_succ_le h2,h3⟩
  ·rename_i hk
   rw [if_neg hk]
   rcases oO hm with hm | ⟨h1,h2,h3⟩
   ·exact .inl hm
   ·exact .inr ⟨dX _ h1,h2,h3⟩
theorem uV:∀{names:List (Str×NameKind)} {n:Nat} {acc:List (Str×Addr)} {p:Str×Addr},p∈acc→p∈cellsFrom n names acc
 | [],_,_,_,h=>h
 | (m,k)::r,n,acc,p,h=>by
  unfold cellsFrom
  split
  ·exact uV (dX _ h)
  ·exact uV h
theorem yI:∀{names:List (Str×NameKind)} {n:Nat} {acc:List (Str×Addr)} {x:Str},(x,.cell)∈names→∃c,(x,c)∈cellsFrom n names acc
 | (m,k)::r,n,acc,x,h=>by
  unfold cellsFrom
  rcases cH.mp h with e | h
  ·cases e
   exact⟨n,uV fD⟩
  ·split
   ·exact yI h
   ·exact yI h
theorem yJ:∀{names:List (Str×NameKind)} {h:Heap} {acc:List (Str×Addr)} {x y:Str} {c:Addr},(∀p∈acc,p.2<h.objs.size)→(∀x y c,(x,c)∈acc→(y,c)∈acc→x=y)→
  (x,c)∈cellsFrom h.objs.size names acc→(y,c)∈cellsFrom h.objs.size names acc→x=y
 | [],_,_,_,_,_,_,hi,h1,h2=>hi _ _ _ h1 h2
 | (n,k)::r,h,acc,x,y,c,hl,hi,h1,h2=>by
  unfold cellsFrom at h1 h2
  split at h1
  ·rename_i hk
   rw [if_pos hk] at h2
   rw [←Bh h {cls:= .type "cell",data:= .cell none}] at h1 h2
   refine yJ (h:=h.push _) (fun p hp=>?_) (fun x y c a b=>?_) h1 h2
   ·rw [Bh]
    rcases cH.mp hp with rfl | hp
    ·exact Nat.lt_succ_self _
    ·exact Nat.lt_succ_of_lt (hl p hp)
   ·rcases cH.mp a with e | a<;>rcases cH.mp b with e' | b
    ·cases e;cases e';rfl
    ·cases e;exact absurd (hl _ b) (sM _)
    ·cases e';exact absurd (hl _ a) (sM _)
    ·exact hi _ _ _ a b
  ·rename_i hk
   rw [if_neg hk] at h2
   exact yJ hl hi h1 h2
theorem Gx {M:Model} {A:Around} {E:Value→Shared→Prop} {s:Shared} {scope:Scope} {globals:Addr} {closure:List (Str×Addr)} {qual:Str} {func:Option Addr} {code:Value} {around:Env} {builtins:Addr} {Q:Env→Shared→Prop}
  (h:Q (newEnv scope s.heap.objs.size globals (cellsFrom (s.heap.objs.size+1) scope.names closure) qual func code (some around) builtins)
   {s with heap:=pushCells (s.heap.push {cls:= .type "dict",data:= .dict #[]}) scope.names}):
  wpAny M A (newFunctionEnv scope globals closure [] qual func code (some around) builtins) Q E s:=by
 simp only [newFunctionEnv,Option.isSome_some,if_true]
 refine bK (wpAny_alloc ?_)
 refine bK (wpAny_layCells _ (fun n k c=>rfl) scope.names closure _ _ ?_)
 rw [show({s with heap:=s.heap.push {cls:= .type "dict",data:= .dict #[]}}:Shared).heap.objs.size=s.heap.objs.size+1 from Bh ..]
 rw [List.forIn_nil]
 exact bK (dR (dR h))
theorem tK {sc:Scope}:∀{names:List (Str×NameKind)} {x:Str} {k:NameKind},
  (names.map fun(n,k)=>if (k==NameKind.free && sc.kind== .function && sc.names.lookup n==some .cell) then(n,NameKind.cell) else(n,k)).lookup x=some k→
  ∃k',names.lookup x=some k'∧(k=k'∨(k'= .free∧k= .cell))
 | [],_,_,h=>by simp at h
 | (n,k₀)::r,x,k,h=>by
  have ih:= @tK sc r x k
  have h':List.lookup x ((if (k₀==NameKind.free && sc.kind== .function && sc.names.lookup n==some .cell)=true then(n,NameKind.cell) else(n,k₀))::(r.map _))=some k:=h
  cases hx:x==n with
  | true=>
   simp only [Da,hx]
   by_cases hc:(k₀==NameKind.free && sc.kind== .function && sc.names.lookup n==some .cell)=true
   ·rw [if_pos hc] at h'
    simp only [Da,hx] at h'
    cases h'
    simp only [yx,beq_iff_eq] at hc
    exact⟨k₀,rfl,.inr ⟨hc.1.1,rfl⟩⟩
   ·rw [if_neg hc] at h'
    simp only [Da,hx] at h'
    cases h'
    exact⟨_,rfl,.inl rfl⟩
  | false=>
   simp only [Da,hx]
   by_cases hc:(k₀==NameKind.free && sc.kind== .function && sc.names.lookup n==some .cell)=true
   ·rw [if_pos hc] at h'
    simp only [Da,hx] at h'
    exact ih h'
   ·rw [if_neg hc] at h'
    simp only [Da,hx] at h'
    exact ih h'
structure FU (N:List Str) (sc scope:Scope) (own:List (Str×Nat)):Prop where
 kind:scope.kind= .function
 uniq:∀y∈scope.names,scope.names.lookup y.1=some y.2
 ix:∀p∈own,N[p.2]?=some p.1
 free:∀y∈scope.names,y.2= .free→sc.names.lookup y.1=some .cell∨sc.names.lookup y.1=some .free
 own:∀y∈scope.names,y.2= .local∨y.2= .cell→y.1∈own.map (·.1)∨y.1 ∉ N
def iZ (σ:St):List Nat→St
 | []=>σ
 | v::vs=>(iZ σ vs).set v none
theorem uD (σ:St):∀vs:List Nat,(iZ σ vs).length=σ.length
 | []=>rfl
 | v::vs=>by unfold iZ;rw [sJ,uD σ vs]
theorem zM {σ:St} {i:Nat} {x:V}:∀{vs:List Nat},(iZ σ vs)[i]?=some (some x)→σ[i]?=some (some x)∧i ∉ vs
 | [],h=>⟨h,by simp⟩
 | v::vs,h=>by
  unfold iZ at h
  by_cases hi:v=i
  ·subst hi
   by_cases hv:v<(iZ σ vs).length
   ·rw [AB hv] at h;cases h
   ·rw [uK (by simpa using hv)] at h;cases h
  ·rw [AA hi] at h
   obtain⟨h1,h2⟩:=zM h
   exact⟨h1,by simp only [cH,not_or];exact⟨fun e=>hi e.symm,h2⟩⟩
abbrev Cx.blk (X:Cx) (s:Shared) (H:Hp) (scope:Scope) (cenv:Env) (fp:List Addr):Cx:={X with s_0:=s,H_0:=H,env:=cenv,outer:=X.stack,ex:=fp,fn:=fun x=>scope.names.lookup x==some .cell,pn:= [],xe:=fun _ _=>False}
section
variable {X:Cx} {pins:List (Addr×Obj)} {σ:St} {H:Hp} {s:Shared}
theorem FZ {scope:Scope} {own:List (Str×Nat)} {fp:List Addr} (I:be X pins σ H s) (ok:FU X.N X.env.scope scope own) (hN:X.N.Nodup) (hfp:∀b∈fp,AE X pins H b∧b<s.heap.objs.size):
  be (X.blk s H scope (compEnvC scope (cellsFrom (s.heap.objs.size+1) scope.names (dG X.env.cells scope.names [])) s.heap.objs.size X.env) fp) [] (iZ σ (own.map (·.2))) H {s with heap:=pushCells (s.heap.push {cls:= .type "dict",data:= .dict #[]}) scope.names}:=by
 have hfree:∀y∈scope.names,y.2= .free→∃c,X.env.cells.lookup y.1=some c:=fun y hy e=>by
  rcases ok.free y hy e with k | k
  ·exact I.ok.has _ (.inl k)
  ·exact I.ok.has _ (.inr k)
 generalize hcenv:compEnvC scope (cellsFrom (s.heap.objs.size+1) scope.names (dG X.env.cells scope.names [])) s.heap.objs.size X.env=cenv
 have kp:∀b o,s.heap.get? b=some o→(pushCells (s.heap.push {cls:= .type "dict",data:= .dict #[]}) scope.names).get? b=some o:=fun b o e=>pushCells_keeps _ _ _ _ (i9 _ e)
 have hL:cenv.locals=s.heap.objs.size:=by rw [←hcenv];rfl
 have hcl:cenv.cells=cellsFrom (s.heap.objs.size+1) scope.names (dG X.env.cells scope.names []):=by rw [←hcenv];rfl
 have hsc:cenv.scope=QY scope X.env.scope:=by rw [←hcenv];rfl
 rw [←Bh s.heap {cls:= .type "dict",data:= .dict #[]}] at hcl
 have cm:∀{y c},(y,c)∈dG X.env.cells scope.names []→X.env.cells.lookup y=some c∧c<s.heap.objs.size:=fun {y c} hm=>by
  rcases nt hm with hm | ⟨h1,rfl⟩
  ·cases hm
  ·obtain⟨c,hc⟩:=hfree _ h1 rfl
   rw [hc]
   obtain⟨w,z⟩:=I.cell _ _ hc
   exact⟨rfl,z.lt⟩
 have mem:∀{y c},cenv.cells.lookup y=some c→(X.env.cells.lookup y=some c∧c<s.heap.objs.size)∨(s.heap.objs.size+1≤c∧Lm (pushCells (s.heap.push {cls:= .type "dict",data:= .dict #[]}) scope.names) c none):=fun {y c} e=>by
  rw [hcl] at e
  rcases oO (i8 e) with hm | ⟨_,h2,h3⟩
  ·exact .inl (cm hm)
  ·rw [Bh] at h2;exact .inr ⟨h2,h3⟩
 have look:∀{y},scope.names.lookup y=some .free→∃c,cenv.cells.lookup y=some c∧X.env.cells.lookup y=some c:=fun {y} hl=>by
  have hy:(y,NameKind.free)∈scope.names:=i8 hl
  obtain⟨c',e'⟩:=wc (uV (names:=scope.names) (n:=(s.heap.push {cls:= .type "dict",data:= .dict #[]}).objs.size) (tI (cells:=X.env.cells) (acc:= []) hy))
  rw [←hcl] at e'
  refine⟨c',e',?_⟩
  rw [hcl] at e'
  rcases oO (i8 e') with hm | ⟨h1,_,_⟩
  ·exact(cm hm).1
  ·have:=ok.uniq _ h1
   rw [hl] at this;cases this
 have okB:(X.blk s H scope cenv fp).Ok:=by
  refine⟨I.ok.mod,by show cenv.scope.kind=_;rw [hsc];exact ok.kind,by show cenv.globals=_;rw [←hcenv];exact I.ok.glob,by show cenv.builtins=_;rw [←hcenv];exact I.ok.blt,by show s.heap.objs.size≤cenv.locals;rw [hL];exact bq _,
   fun y z c e1 e2=>?_,fun y hy=>?_,fun y c z e=>?_,I.ok.hd,I.ok.frames,.inl rfl,fun b hb=>⟨?_,fun y c e z=>?_⟩,I.bs,fS I.ok.bsz I.sz,fun b o e hb=>?_,fun b hb z=>?_,I.stack,I.stkFree⟩
  ·have e1:cenv.cells.lookup y=some c:=e1
   have e2:cenv.cells.lookup z=some c:=e2
   rw [hcl] at e1 e2
   refine yJ (fun p hp=>?_) (fun y z c a b=>I.ok.inj y z c (cm a).1 (cm b).1) (i8 e1) (i8 e2)
   rw [Bh]
   exact Nat.lt_succ_of_lt (cm (y:=p.1) (c:=p.2) hp).2
  ·show ∃c,cenv.cells.lookup y=some c
   have key:∀k,cenv.kindOf y=some k→(k= .cell∨k= .free)→∃c,cenv.cells.lookup y=some c:=fun k hk hk'=>by
    unfold Env.kindOf at hk
    rw [hsc] at hk
    obtain⟨k',e,r⟩:=tK hk
    have:k'= .cell∨k'= .free:=by
     rcases r with rfl | ⟨rfl,_⟩
     ·exact hk'
     ·exact .inr rfl
    rcases this with rfl | rfl
    ·obtain⟨c,hm⟩:=yI (n:=(s.heap.push {cls:= .type "dict",data:= .dict #[]}).objs.size) (acc:=dG X.env.cells scope.names []) (i8 e)
     obtain⟨c',e'⟩:=wc hm
     exact⟨c',by rw [hcl];exact e'⟩
    ·obtain⟨c,h1,_⟩:=look e
     exact⟨c,h1⟩
   rcases hy with hy | hy
   ·exact key _ hy (.inl rfl)
   ·exact key _ hy (.inr rfl)
  ·have z:(scope.names.lookup y==some NameKind.cell)=true:=z
   have z:scope.names.lookup y=some .cell:=by simpa using z
   have e:cenv.cells.lookup y=some c:=e
   rw [hcl] at e
   rcases oO (i8 e) with hm | ⟨_,h2,_⟩
   ·rcases nt hm with hm | ⟨h1,_⟩
    ·cases hm
    ·have q:=ok.uniq _ h1
     rw [z] at q;cases q
   ·rw [Bh] at h2
    exact Nat.le_of_succ_le h2
  ·show b≠cenv.locals
   rw [hL];exact fm (hfp b hb).2
  ·have e:cenv.cells.lookup y=some c:=e
   rcases mem e with⟨h1,_⟩ | ⟨h1,_⟩
   ·exact(hfp b hb).1.2.2.2.2.1 y c h1 z
   ·have h2:s.heap.objs.size+1≤b:=by rw [←z];exact h1
    exact absurd (gR (hfp b hb).2 (Nat.le_of_succ_le h2)) (sM _)
  ·rcases (hfp b hb).1.2.2.2.1 with z | z
   ·exact I.ok.noex b o e z
   ·exact absurd (gR (fo e) (fS I.ok.bsz z)) (sM _)
  ·rcases cH.mp (I.stkSub b z) with z | z
   ·exact(hfp b hb).1.2.1 z
   ·exact(hfp b hb).1.2.2.1 z
 refine⟨okB,rfl,I.bare,Un.kept kp,⟨fun _=>none,?_,fun i y av e1 e2 e3=>?_⟩,fun y c e=>?_,?_,fun y c e=>?_,fun p hp=>?_,I.hok.kept kp,by rw [uD];exact I.len⟩
 ·show Heap.Ns _ cenv.locals _
  rw [hL]
  exact Heap.Ns.keeps (Heap.Ns.new ..) fun b o e=>pushCells_keeps _ _ _ _ e
 ·obtain⟨e2,hne⟩:=zM e2
  have hfr:scope.names.lookup y=some .free∧(cenv.kindOf y=some .cell∨cenv.kindOf y=some .free):=by
   have key:∀k,cenv.scope.names.lookup y=some k→k= .local∨k= .cell∨k= .free→scope.names.lookup y=some .free∧(cenv.kindOf y=some .cell∨cenv.kindOf y=some .free):=fun k hk hk'=>by
    have hk0:=hk
    rw [hsc] at hk
    obtain⟨k',e,r⟩:=tK hk
    have no:¬(k'= .local∨k'= .cell):=fun hh=>by
     rcases ok.own _ (i8 e) hh with e' | e'
     ·obtain⟨p,hp,hpy⟩:=lV.mp e'
      have e3:=ok.ix p hp
      have:p.1=y:=hpy
      rw [this] at e3
      exact hne (lV.mpr ⟨p,hp,BS hN e3 e1⟩)
     ·exact e' (eR e1)
    rcases r with rfl | ⟨rfl,rfl⟩
    ·rcases hk' with rfl | rfl | rfl
     ·exact absurd (.inl rfl) no
     ·exact absurd (.inr rfl) no
     ·exact⟨e,.inr hk0⟩
    ·exact⟨e,.inl hk0⟩
   have e3:Oq cenv.scope y:=e3
   rcases e3 with e3 | e3 | e3
   ·exact key _ e3 (.inl rfl)
   ·exact key _ e3 (.inr (.inl rfl))
   ·exact key _ e3 (.inr (.inr rfl))
  obtain⟨m,hn,hl⟩:=I.loc
  have hvis:Oq X.env.scope y:=(ok.free _ (i8 hfr.1) rfl).elim (fun k=> .inr (.inl k)) (fun k=> .inr (.inr k))
  obtain⟨w,r,q⟩:=hl i y av e1 e2 hvis
  refine⟨w,r,.inr ⟨hfr.2,?_⟩⟩
  obtain⟨c,h1,h2⟩:=look hfr.1
  rcases q with⟨k,_⟩ | ⟨_,c',e',z⟩
  ·have k:X.env.scope.names.lookup y=some .local:=k
   rcases ok.free _ (i8 hfr.1) rfl with k' | k'<;>rw [show X.env.scope.names.lookup y=_ from k'] at k<;>cases k
  ·rw [h2] at e';cases e'
   exact⟨c,h1,z.keeps kp⟩
 ·have e:cenv.cells.lookup y=some c:=e
  rcases mem e with⟨h1,_⟩ | ⟨_,z⟩
  ·obtain⟨w,z⟩:=I.cell y c h1
   exact⟨w,z.keeps kp⟩
  ·exact⟨_,z⟩
 ·show H cenv.locals=none
  rw [hL];exact I.hok.fresh (bq _)
 ·have e:cenv.cells.lookup y=some c:=e
  rcases mem e with⟨h1,_⟩ | ⟨h1,_⟩
  ·exact I.freeC y c h1
  ·exact I.hok.fresh (Nat.le_of_succ_le h1)
 ·exact absurd (show p∈([]:List (Addr×Obj))++ [] from hp) (by simp)
theorem Ou {E:Value→Shared→Prop} {D:Addr} {xs:List V} {y:V} {v:Value} {Q:Value→Shared→Prop} (I:be X pins σ H s) (hD:H D=some (.lst xs)) (hz:xs.length<sizeLine) (r:cZ y v)
  (h:∀s',be X pins σ (bT H D (.lst (xs++ [y]))) s'→Q .none s'):wpAny (model X.prog X.w) X.A (call (.builtin "list.append") [.ref D,v]) Q E s:=by
 obtain⟨hz',its,n,ri,e⟩:=I.hok D _ hD
 have hl:=ri.length
 refine append_at (hsz:=by rw [fR];omega) e fun h' sb ho'=>?_
 refine h {s with heap:=h'} (I.write (t':=s.toks) (by rw [hD];trivial) (.inl rfl) (fun b u hb q=>(sb.2 b hb).trans q) ⟨_,ho'⟩ ⟨by rw [bZ];exact hz,its++ [v],n+1,ri.append (.cons r .nil),?_⟩)
 rw [ho']
 simp
def Ps (X:Cx) (ifs:List Expr) (t:TT):Prop:=
 ∀(pins:List (Addr×Obj)) (s:Shared) (σ:St) (H:Hp) (Q:Bool→Hp→Prop),be X pins σ H s→t σ H Q→
  wpAny (model X.prog X.w) X.A (forIn ifs true fun c r=>if r=true then do let ok ←isTrue c X.env (eval c X.env);pure (ForInStep.yield ok) else pure (ForInStep.yield r)) (TP X pins σ Q) X.xe s
def Rf:TT:=fun _ H Q=>Q true H
theorem dS:Ps X [] Rf:=fun _ _ _ H _ I h=>wpAny_tests_nil ⟨H,I,h⟩
theorem Fg {c:Expr} {t:TT} (h:PT X c t):Ps X [c] t:=fun pins s σ H Q I hw=>wpAny_tests_one (h pins s σ H Q I hw)
end
theorem Lf {α:Type} {t:Sem α} {Q Q':α→Shared→Prop} {M:Model} {A:Around} {E:Value→Shared→Prop} {s:Shared} (h:wpAny M A t Q (fun _ _=>False) s) (hQ:∀a s,Q a s→Q' a s):wpAny M A t Q' E s:=kR h hQ fun _ _ z=>False.elim z
theorem EO {prog:Program} {w:World} {A:Around} {R:Result→Shared→Prop} {s:Shared} {elt target iter:Expr} {ifs:List Expr} {scope:Scope} {pos:Pos} {it acc:Value} {env:Env} (I:Nat→Shared→Prop)
  (turn:∀n s,I n s→wpAny (model prog w) A (pyNext it) (fun r s₁=>match r with
   | none=>R (.ok .next) s₁
   | some v=>wpAny (model prog w) A (letOwnedTupleGo target it v) (fun _ s₁'=>wpAny (model prog w) A (assign target env v) (fun _ s₂=>
     wpAny (model prog w) A (forIn ifs true fun c r=>if r=true then do let ok ←isTrue c env (eval c env);pure (ForInStep.yield ok) else pure (ForInStep.yield r)) (fun ok s₃=>
      if ok=true then wpAny (model prog w) A (eval elt env) (fun x s₄=>
       wpAny (model prog w) A (call (.builtin "list.append") [acc,x]) (fun _ s₅=>∃m,m<n∧I m s₅) (notedBy (model prog w) A env fun e s'=>R (.error e) s') s₄) (notedBy (model prog w) A env fun e s'=>R (.error e) s') s₃
      else ∃m,m<n∧I m s₃) (notedBy (model prog w) A env fun e s'=>R (.error e) s') s₂) (notedBy (model prog w) A env fun e s'=>R (.error e) s') s₁') (notedBy (model prog w) A env fun e s'=>R (.error e) s') s₁) (notedBy (model prog w) A env fun e s'=>R (.error e) s') s)
  (n:Nat) (h:I n s):
  codeAny (model prog w) A (.compLoop (.ListComp elt [⟨target,iter,ifs,0⟩] scope pos) 0 it acc env) R s:=by
 refine codeAny_loop rfl I (fun n s hI=>?_) n h
 show wpAny _ A ((compTurn (.ListComp elt [⟨target,iter,ifs,0⟩] scope pos) 0 it acc env).onRaise (fun x=>do noteFrame x env;theTreesLotGoes x)) _ _ s
 refine wpAny_noted ?_
 rw [compTurn_list]
 refine bK (wpAny_standAt (bK (kR (turn n s hI) (fun r s₁ h₁=>?_) fun _ _ h'=>h')))
 cases r with
 | none=>exact dR h₁
 | some v=>
  refine bK (kR h₁ (fun _ s₁' h₁'=>?_) fun _ _ h'=>h')
  refine bK (kR h₁' (fun _ s₂ h₂=>bK (kR h₂ (fun ok s₃ h₃=>?_) fun _ _ h'=>h')) fun _ _ h'=>h')
  cases ok with
  | false=>exact dR ⟨rfl,h₃⟩
  | true=>
   exact bK (bK (kR h₃ (fun x s₄ h₄=>bK (kR h₄ (fun _ s₅ h₅=>dR (dR ⟨rfl,h₅⟩)) fun _ _ h'=>h')) fun _ _ h'=>h'))
section
variable {X:Cx}
def Qt (wi:TI) (g:TG) (tt:TT) (te:TE) (vs:List Nat):TE:=fun σ H Q=>wi σ H fun J H1=>∀D,H1 D=none→∃W:Nat→Nat→Hp→Prop,(∃m,W 0 m (bT H1 D (.lst [])))∧∀i m H,W i m H→
 (J.stop i H∧Q (.ref D) H)∨(J.go i H∧∃Nx:Hp→Prop,(∀H',Nx H'→∃m',m'<m∧W (i+1) m' H')∧∀x H',J.yld i H x H'→g x (iZ σ vs) H' fun σ2 H2=>iZ σ2 vs=iZ σ vs∧tt σ2 H2 fun b H3=>
  if b=true then te σ2 H3 fun y H4=>∃acc,H4 D=some (.lst acc)∧acc.length<sizeLine∧Nx (bT H4 D (.lst (acc++ [y]))) else Nx H3)
theorem Jy {pins:List (Addr×Obj)} {s:Shared} {σ:St} {H:Hp} {Q:VK} {elt tg iter:Expr} {ifs:List Expr} {scope:Scope} {own:List (Str×Nat)} {pos pos':Pos} {wi:TI} {g:TG} {tt:TT} {te:TE} {use:Option (Value→Sem Unit)} {Qf:Value→Shared→Prop}
  (hc:X.calm=true) (hN:X.N.Nodup) (I:be X pins σ H s) (hi:PI X tg iter wi) (ok:FU X.N X.env.scope scope own)
  (hg:∀(s:Shared) (H:Hp) (C:Addr) (cl:List (Str×Addr)) (fp:List Addr),PG (X.blk s H scope (compEnvC scope cl C X.env) fp) tg g) (ht:∀(s:Shared) (H:Hp) (C:Addr) (cl:List (Str×Addr)) (fp:List Addr),Ps (X.blk s H scope (compEnvC scope cl C X.env) fp) ifs tt)
  (he:∀(s:Shared) (H:Hp) (C:Addr) (cl:List (Str×Addr)) (fp:List Addr),PE (X.blk s H scope (compEnvC scope cl C X.env) fp) elt te) (hs:∀x,foldedSetIterable iter X.env x=pure x)
  (h:Qt wi g tt te (own.map (·.2)) σ H Q)
  (hRR:∀D C s' m H',be X pins σ H' s'→Q (.ref D) H'→s'.heap.Ns C m→AE X pins H' C→compPost (model X.prog X.w) X.A X.xe use Qf (.ref D) C (.ok .next) s'):
  wpAny (model X.prog X.w) X.A (comprehension (.ListComp elt [⟨tg,iter,ifs,0⟩] scope pos) scope X.env pos' (newList []) false (eval iter X.env) use) Qf X.xe s:=by
 have hfree:∀y∈scope.names,y.2= .free→∃c,X.env.cells.lookup y.1=some c:=fun y hy e=>by
  rcases ok.free y hy e with k | k
  ·exact I.ok.has _ (.inl k)
  ·exact I.ok.has _ (.inr k)
 refine wpAny_comprehension_free (use:=use) rfl hs (Ia hfree) ok.kind (fun y hy e=>by rw [ok.uniq y hy,e])
  (eS (hi pins s σ H _ I h) fun xv s1 hx=>eS hx fun itv s2 h2=>?_)
 obtain⟨it,fp,tn,J,H2,e,I2,T,st2,f2,q⟩:=h2
 subst e
 refine wpAny_newObj_type (Gx ?_) (by show 0≤sizeLine;decide)
 generalize hD:s2.heap.objs.size=D
 have hDn:H2 D=none:=I2.hok.fresh (Nat.le_of_eq hD)
 obtain⟨W,⟨m0,w0⟩,turn⟩:=q D hDn
 generalize hs3:({s2 with heap:=s2.heap.push {cls:= .type "list",data:= .seq ([]:List Value).toArray}}:Shared)=s3
 have I3:be X pins σ (bT H2 D (.lst [])) s3:=by
  rw [←hs3]
  refine I2.laid (t':=s2.toks) (fun b o e=>i9 _ e) (Nat.le_of_eq hD) ⟨bo _,[],0,.nil,?_⟩
  rw [←hD]
  exact vv _ rfl
 have h3:s3.heap=s2.heap.push {cls:= .type "list",data:= .seq ([]:List Value).toArray}:=by rw [←hs3]
 have sz:∀b∈fp,b<s2.heap.objs.size:=fun b hb=>by
  obtain⟨o,e,_⟩:=T.obj _ _ st2 b hb
  exact fo e
 have f3:∀b∈fp,AE X pins (bT H2 D (.lst [])) b∧b<s3.heap.objs.size:=fun b hb=>by
  have hlt:=sz b hb
  refine⟨⟨?_,(f2 b hb).2⟩,by rw [h3,Bh];exact Nat.lt_succ_of_lt hlt⟩
  rw [ak (by rw [←hD];exact fm hlt)]
  exact(f2 b hb).1
 have st3:tn 0 s3.heap:=T.keep _ _ _ st2 fun b _ o e=>by rw [h3];exact i9 _ e
 have I4:=FZ I3 ok hN f3
 have pg:=hg s3 (bT H2 D (.lst [])) s3.heap.objs.size (cellsFrom (s3.heap.objs.size+1) scope.names (dG X.env.cells scope.names [])) fp
 have pt:=ht s3 (bT H2 D (.lst [])) s3.heap.objs.size (cellsFrom (s3.heap.objs.size+1) scope.names (dG X.env.cells scope.names [])) fp
 have pe:=he s3 (bT H2 D (.lst [])) s3.heap.objs.size (cellsFrom (s3.heap.objs.size+1) scope.names (dG X.env.cells scope.names [])) fp
 show codeAny _ _ (.compStart (.ListComp elt [⟨tg,iter,ifs,0⟩] scope pos) 0 (.ref it) (.ref D) (compEnvC scope (cellsFrom (s3.heap.objs.size+1) scope.names (dG X.env.cells scope.names [])) s3.heap.objs.size X.env)) (compPost (model X.prog X.w) X.A X.xe use Qf (.ref D) s3.heap.objs.size) {s3 with heap:=pushCells (s3.heap.push {cls:= .type "dict",data:= .dict #[]}) scope.names}
 have nfp:∀b∈fp,(bT H2 D (.lst [])) b=none:=fun b hb=>(f3 b hb).1.1
 generalize hce:compEnvC scope (cellsFrom (s3.heap.objs.size+1) scope.names (dG X.env.cells scope.names [])) s3.heap.objs.size X.env=ce at I4 pg pt pe⊢
 have cL:ce.locals=s3.heap.objs.size:=by subst hce;rfl
 generalize hH3:bT H2 D (.lst [])=H3 at I3 I4 pg pt pe w0 nfp f3
 generalize hs4:({s3 with heap:=pushCells (s3.heap.push {cls:= .type "dict",data:= .dict #[]}) scope.names}:Shared)=s4 at I4⊢
 have st4:tn 0 s4.heap:=T.keep _ _ _ st3 fun b _ o e=>by rw [←hs4];exact pushCells_keeps _ _ _ _ (i9 _ e)
 have stat:∀{σ':St} {H':Hp} {s':Shared},be (X.blk s3 H3 scope ce fp) [] σ' H' s'→(∀b∈fp,H' b=none)→∀b∈fp,AE (X.blk s3 H3 scope ce fp) [] H' b:=fun {σ' H' s'} I' hn b hb=>
  ⟨hn b hb,(I'.ok.exf b hb).1,I'.ok.exfs b hb,.inl hb,fun x c e=>(I'.ok.exf b hb).2 x c e,fun p hp=>absurd (show p∈([]:List (Addr×Obj))++ [] from hp) (by simp)⟩
 have loop:codeAny (model X.prog X.w) X.A (.compLoop (.ListComp elt [⟨tg,iter,ifs,0⟩] scope pos) 0 (.ref it) (.ref D) ce) (compPost (model X.prog X.w) X.A X.xe use Qf (.ref D) s3.heap.objs.size) s4:=by
  refine EO (fun n s'=>∃i H',be (X.blk s3 H3 scope ce fp) [] (iZ σ (own.map (·.2))) H' s'∧tn i s'.heap∧(∀b∈fp,H' b=none)∧W i n H') ?_ m0 ⟨0,H3,I4,st4,nfp,w0⟩
  rintro n s5 ⟨i,H5,I5,st5,n5,w5⟩
  rcases turn i n H5 w5 with⟨stop,qq⟩ | ⟨go,Nx,hNx,step⟩
  ·have td:=T.done (X.blk s3 H3 scope ce fp) rfl rfl rfl hc i [] s5 _ H5 (fun _ _=>False) I5 (stat I5 n5) st5 stop
   refine Lf td fun r s6 ⟨hr,I6⟩=>?_
   subst hr
   have I7:be X pins σ H5 s6:=I3.call' (ch:=fp) I6.os I6.base I6.hok I6.bare fun b hb=>⟨(f3 b hb).1.2.2.2.1,(f3 b hb).1.2.1,(f3 b hb).1.2.2.2.2.1,(f3 b hb).1.2.2.2.2.2⟩
   have nC:H5 s3.heap.objs.size=none:=by
    have z:H5 ce.locals=none:=I6.free
    rw [cL] at z
    exact z
   obtain⟨m,hn,_⟩:=I6.loc
   have hn:s6.heap.Ns ce.locals m:=hn
   rw [cL] at hn
   exact hRR D s3.heap.objs.size s6 m H5 I7 qq hn (I3.fpOk (bq _) nC)
  ·have ti:=T.item (X.blk s3 H3 scope ce fp) rfl rfl rfl hc i [] s5 _ H5 (fun _ _=>False) I5 (stat I5 n5) st5 go
   refine Lf ti fun r s6 ⟨u,hr,h6⟩=>?_
   subst hr
   refine Lf h6 fun _ s7 ⟨x,H7,I7,r7,y7,st7,n7⟩=>?_
   have I7':=I7.pinned (stat I7 n7) (T.obj _ _ st7)
   refine Lf (pg _ s7 _ H7 x u _ I7' r7 (step x H7 y7)) fun _ s8 ⟨σ8,H8,I8,hw8,q8⟩=>?_
   refine Lf (pt _ s8 σ8 H8 _ I8 q8) fun b s9 ⟨H9,I9,q9⟩=>?_
   have fin:∀{s':Shared} {H':Hp},be (X.blk s3 H3 scope ce fp) ([]++B4 fp s7.heap) σ8 H' s'→Nx H'→∃m,m<n∧∃i H',be (X.blk s3 H3 scope ce fp) [] (iZ σ (own.map (·.2))) H' s'∧tn i s'.heap∧(∀b∈fp,H' b=none)∧W i m H':=fun {s' H'} I' nx=>by
    obtain⟨m',hm,w'⟩:=hNx H' nx
    have pin':∀b∈fp,∀o,s7.heap.get? b=some o→s'.heap.get? b=some o∧H' b=none:=fun b hb o e=>
     let z:=I'.pin (b,o) (sK _ (sK _ (wd hb e)))
     ⟨z.1,z.2.1⟩
    have hl:(iZ σ (own.map (·.2))).length=σ8.length:=by rw [←hw8,uD]
    refine⟨m',hm,i+1,H',(I'.unpinned (pins:= [])).weak hl (fun j v e=>?_),T.keep _ _ _ st7 fun b hb o e=>(pin' b hb o e).1,fun b hb=>?_,w'⟩
    ·rw [←hw8] at e
     exact(zM e).1
    ·obtain⟨o,e,_⟩:=T.obj _ _ st7 b hb
     exact(pin' b hb o e).2
   cases b with
   | false=>
    simp only [Bool.false_eq_true,if_false] at q9⊢
    exact fin I9 q9
   | true=>
    simp only [if_true] at q9⊢
    refine Lf (pe _ s9 σ8 H9 _ I9 q9) fun z s10 ⟨yv,H10,I10,r10,acc,hD10,hz10,nx⟩=>?_
    exact Ou (X:=X.blk s3 H3 scope ce fp) I10 hD10 hz10 r10 fun s11 I11=>fin I11 nx
 exact codeAny_compStart_list loop (T.self X.A 0 _ _ _ st4 loop)
theorem j9 {elt tg iter:Expr} {ifs:List Expr} {scope:Scope} {own:List (Str×Nat)} {pos:Pos} {wi:TI} {g:TG} {tt:TT} {te:TE} (hc:X.calm=true) (hN:X.N.Nodup) (hi:PI X tg iter wi) (ok:FU X.N X.env.scope scope own)
  (hg:∀(s:Shared) (H:Hp) (C:Addr) (cl:List (Str×Addr)) (fp:List Addr),PG (X.blk s H scope (compEnvC scope cl C X.env) fp) tg g) (ht:∀(s:Shared) (H:Hp) (C:Addr) (cl:List (Str×Addr)) (fp:List Addr),Ps (X.blk s H scope (compEnvC scope cl C X.env) fp) ifs tt)
  (he:∀(s:Shared) (H:Hp) (C:Addr) (cl:List (Str×Addr)) (fp:List Addr),PE (X.blk s H scope (compEnvC scope cl C X.env) fp) elt te) (hs:∀x,foldedSetIterable iter X.env x=pure x:=by intro _;rfl):
  PE X (.ListComp elt [⟨tg,iter,ifs,0⟩] scope pos) (Qt wi g tt te (own.map (·.2))):=by
 intro pins s σ H Q I h
 rw [eval_ListComp]
 refine Jy hc hN I hi ok hg ht he hs h fun D C s' m H' I' q hn f=>⟨m,hn,fun h'' sb=>?_⟩
 obtain⟨f0,f1,f2,f3,f4,f5⟩:=f
 exact⟨.ref D,H',I'.turned (t':=s'.toks) (fun b o hb e=>(sb.2 b hb).trans e) f0 f1 f3 f4 f5,rfl,q⟩
theorem tX {i:Nat} {y:Str} {py:Pos} {elt tg iter:Expr} {ifs:List Expr} {scope:Scope} {own:List (Str×Nat)} {pos spos:Pos} {wi:TI} {g:TG} {tt:TT} {te:TE} (hc:X.calm=true) (hN:X.N.Nodup) (hy:X.N[i]?=some y) (hyl:X.env.scope.names.lookup y=some .local)
  (hsw:swapsWith (.ListComp elt [⟨tg,iter,ifs,0⟩] scope pos) (some (.Name y py)) spos.line X.env=pure true) (hi:PI X tg iter wi) (ok:FU X.N X.env.scope scope own)
  (hg:∀(s:Shared) (H:Hp) (C:Addr) (cl:List (Str×Addr)) (fp:List Addr),PG (X.blk s H scope (compEnvC scope cl C X.env) fp) tg g) (ht:∀(s:Shared) (H:Hp) (C:Addr) (cl:List (Str×Addr)) (fp:List Addr),Ps (X.blk s H scope (compEnvC scope cl C X.env) fp) ifs tt)
  (he:∀(s:Shared) (H:Hp) (C:Addr) (cl:List (Str×Addr)) (fp:List Addr),PE (X.blk s H scope (compEnvC scope cl C X.env) fp) elt te) (hs:∀x,foldedSetIterable iter X.env x=pure x:=by intro _;rfl):
  PS X (.Assign [.Name y py] (.ListComp elt [⟨tg,iter,ifs,0⟩] scope pos) spos) (NU (Qt wi g tt te (own.map (·.2))) (Ea i)):=by
 intro pins s σ H D I h
 rw [exec_Assign_Name_used _ _ _ _ hsw]
 refine bK (wpAny_standAt (bK ?_))
 show wpAny _ X.A (do let _ ←comprehension (.ListComp elt [⟨tg,iter,ifs,0⟩] scope pos) scope X.env (firstIterPos [⟨tg,iter,ifs,0⟩] pos) (newList []) false (eval iter X.env) (some (assign (.Name y py) X.env))) _ _ s
 have h:Qt wi g tt te (own.map (·.2)) σ H (fun x H1=>Ea i x σ H1 D.nx):=h
 refine bK (eS (Jy (Qf:=fun _ s'=>SP X pins D .next s') hc hN I hi ok hg ht he hs h fun L C s' m H' I' q hn f=>?_) fun _ s' hq=>dR (dR hq))
 show wpAny _ _ (assign (.Name y py) X.env (.ref L)) _ _ _
 refine wpAny_assign_Name (EB (v:=V.ref L) I' hN hy (.inl hyl) rfl (fun s2 I2 ⟨a,sb,ha⟩=>?_) (.inr hyl))
 obtain⟨f0,f1,f2,f3,f4,f5⟩:=f
 have haC:C≠a:=by
  rcases ha with z | z
  ·rw [z];exact f1
  ·exact fun e=>f4 y a z e.symm
 refine⟨m,hn.sameBut sb haC,fun h3 sb3=>?_⟩
 exact⟨_,H',I2.turned (t':=s2.toks) (fun b o hb e=>(sb3.2 b hb).trans e) f0 f1 f3 f4 f5,q⟩
theorem yp {elt:Expr} {gs:List Comprehension} {scope:Scope} {pos py:Pos} {y:Str} {l:Nat} {env:Env} (hk:env.scope.kind= .function) (hy:env.scope.names.lookup y=some .local) (hl:(py.line==pos.line)=true)
  (ha:(scope.names.any fun(n,k)=>n==y && (k== .local || k== .cell))=false):swapsWith (.ListComp elt gs scope pos) (some (.Name y py)) l env=pure true:=by
 have ky:env.kindOf y=some .local:=hy
 have hb:env.blockKind= .function:=by unfold Env.blockKind;rw [hk];rfl
 unfold swapsWith
 simp only [hb,ky,ha,Expr.pos,hl]
 rfl
end
theorem gA {lo:Int} {n:Nat} {g:TG} {tt:TT} {te:TE} {vs:List Nat} {σ:St} {H1:Hp} {D:Addr} {Qd:Hp→Prop} (Pv:Nat→Hp→Prop) (h0:Pv 0 (bT H1 D (.lst [])))
  (hs:∀i H,i<n→Pv i H→g (.int (lo+i)) (iZ σ vs) H fun σ2 H2=>iZ σ2 vs=iZ σ vs∧tt σ2 H2 fun b H3=>
   if b=true then te σ2 H3 fun y H4=>∃acc,H4 D=some (.lst acc)∧acc.length<sizeLine∧Pv (i+1) (bT H4 D (.lst (acc++ [y]))) else Pv (i+1) H3) (hd:∀H,Pv n H→Qd H):
  ∃W:Nat→Nat→Hp→Prop,(∃m,W 0 m (bT H1 D (.lst [])))∧∀i m H,W i m H→
   ((M4 lo n).stop i H∧Qd H)∨((M4 lo n).go i H∧∃Nx:Hp→Prop,(∀H',Nx H'→∃m',m'<m∧W (i+1) m' H')∧∀x H',(M4 lo n).yld i H x H'→g x (iZ σ vs) H' fun σ2 H2=>iZ σ2 vs=iZ σ vs∧tt σ2 H2 fun b H3=>
     if b=true then te σ2 H3 fun y H4=>∃acc,H4 D=some (.lst acc)∧acc.length<sizeLine∧Nx (bT H4 D (.lst (acc++ [y]))) else Nx H3):=by
 refine⟨fun i m H=>m=n - i∧i≤n∧Pv i H,⟨n,by simp,bo _,h0⟩,?_⟩
 rintro i m H ⟨rfl,hi,p⟩
 by_cases hlt:i<n
 ·refine .inr ⟨hlt,Pv (i+1),fun H' p'=>⟨n - (i+1),⋯,rfl,hlt,p'⟩,fun x H' y=>?_⟩
  obtain⟨e,y⟩:=y
  subst e y
  exact hs i _ hlt p
 ·have e:i=n:=by omega
  subst e
  exact .inl ⟨bq _,hd H p⟩
theorem jD {K:PySem.W.Frag} {a:Addr} {xs:List V} {g:TG} {tt:TT} {te:TE} {vs:List Nat} {σ:St} {H1:Hp} {D:Addr} {Qd:Hp→Prop} (Pv:Nat→Hp→Prop) (h0:Pv 0 (bT H1 D (.lst []))) (hl:∀i H,i≤xs.length→Pv i H→a5 K H a xs)
  (hs:∀i x H,xs[i]?=some x→Pv i H→g x (iZ σ vs) H fun σ2 H2=>iZ σ2 vs=iZ σ vs∧tt σ2 H2 fun b H3=>
   if b=true then te σ2 H3 fun y H4=>∃acc,H4 D=some (.lst acc)∧acc.length<sizeLine∧Pv (i+1) (bT H4 D (.lst (acc++ [y]))) else Pv (i+1) H3) (hd:∀H,Pv xs.length H→Qd H):
  ∃W:Nat→Nat→Hp→Prop,(∃m,W 0 m (bT H1 D (.lst [])))∧∀i m H,W i m H→
   ((N2 K a).stop i H∧Qd H)∨((N2 K a).go i H∧∃Nx:Hp→Prop,(∀H',Nx H'→∃m',m'<m∧W (i+1) m' H')∧∀x H',(N2 K a).yld i H x H'→g x (iZ σ vs) H' fun σ2 H2=>iZ σ2 vs=iZ σ vs∧tt σ2 H2 fun b H3=>
     if b=true then te σ2 H3 fun y H4=>∃acc,H4 D=some (.lst acc)∧acc.length<sizeLine∧Nx (bT H4 D (.lst (acc++ [y]))) else Nx H3):=by
 refine⟨fun i m H=>m=xs.length - i∧i≤xs.length∧Pv i H,⟨xs.length,by simp,bo _,h0⟩,?_⟩
 rintro i m H ⟨rfl,hi,p⟩
 have q:=hl i H hi p
 by_cases hlt:i<xs.length
 ·refine .inr ⟨⟨xs,xs[i],q,by simp [hlt]⟩,Pv (i+1),fun H' p'=>⟨xs.length - (i+1),⋯,rfl,hlt,p'⟩,fun x H' y=>?_⟩
  obtain⟨e,y⟩:=y
  subst e
  exact hs i x _ (y xs q) p
 ·have e:i=xs.length:=by omega
  subst e
  exact .inl ⟨⟨xs,q,bq _⟩,hd H p⟩
def Pt (N:List Str) (sc scope:Scope) (own:List (Str×Nat)):Bool:=
 (match scope.kind with | .function=>true | _=>false) && (scope.names.all fun y=>decide (scope.names.lookup y.1=some y.2)) && (own.all fun p=>decide (N[p.2]?=some p.1)) &&
  (scope.names.all fun y=>match y.2 with
   | .free=>(match sc.names.lookup y.1 with | some .cell=>true | some .free=>true | _=>false)
   | .local=>decide (y.1∈own.map (·.1)) || decide (y.1 ∉ N)
   | .cell=>decide (y.1∈own.map (·.1)) || decide (y.1 ∉ N)
   | _=>true)
theorem ci {N:List Str} {sc scope:Scope} {own:List (Str×Nat)} (h:Pt N sc scope own=true):FU N sc scope own:=by
 unfold Pt at h
 simp only [yx,Az,fC] at h
 obtain⟨⟨⟨h1,h2⟩,h3⟩,h4⟩:=h
 refine⟨?_,h2,h3,fun y hy e=>?_,fun y hy e=>?_⟩
 ·split at h1
  ·assumption
  ·cases h1
 ·have q:=h4 y hy
  simp only [e] at q
  split at q<;>first | exact .inl (by assumption) | exact .inr (by assumption) | cases q
 ·have q:=h4 y hy
  rcases e with e | e<;>(simp only [e,Bool.or_eq_true,fC] at q;exact q)
end L2
namespace L2
open PySem PySem.Spec PyProof.Rows
section
variable {prog:Program} {w:World} {A:Around} {R:Result→Shared→Prop} {s:Shared} {elt t0 i0 t1 i1:Expr} {ifs0 ifs1:List Expr} {scope:Scope} {pos:Pos} {it acc:Value} {env:Env}
end
section
variable {X:Cx}
end
end L2
namespace L2
open PySem PySem.Spec PyProof.Rows
section
variable {κ:Type} [DecidableEq κ]
def Hz (kvs:List (κ×V)) (k:κ):Option V:=(kvs.find? fun kv=>decide (kv.1=k)).map (·.2)
theorem MN {p:κ×V} {r:List (κ×V)} {k:κ} (e:p.1=k):Hz (p::r) k=some p.2:=by simp [Hz,C8,e]
theorem ML {p:κ×V} {r:List (κ×V)} {k:κ} (e:¬p.1=k):Hz (p::r) k=Hz r k:=by simp [Hz,C8,e]
theorem vX.isSome_eq {o:Option V} {u:Option Value} (r:vX o u):o.isSome=u.isSome:=by
 cases o with
 | none=>cases u with
  | none=>rfl
  | some _=>exact(show False from r).elim
 | some _=>cases u with
  | none=>exact(show False from r).elim
  | some _=>rfl
theorem KV.val {kvs:List (κ×V)} {vs:List (κ×Value)} (r:KV kvs vs) (k:κ):vX (Hz kvs k) (valueAt vs k):=by
 unfold KV at r
 induction r with
 | nil=>exact True.intro
 | @cons p q ps qs h t ih=>
  obtain⟨h1,h2⟩:=h
  by_cases e:p.1=k
  ·have e':q.1=k:=h1.symm.trans e
   have b:valueAt (q::qs) k=some q.2:=by simp [valueAt,C8,e']
   rw [MN e,b];exact h2
  ·have e':¬q.1=k:=fun z=>e (h1.trans z)
   have b:valueAt (q::qs) k=valueAt qs k:=by simp [valueAt,C8,e']
   rw [ML e,b];exact ih
end
theorem N8 {P:Program} {w:World} {k:yG} {u:Value} (r:cZ (kV k) u):(lY P w).is k u=true:=by
 cases k with
 | inl i=>obtain⟨t,e⟩:=(show ∃t,u=Value.int i t from r);subst e;exact Gp P w i t
 | inr x=>obtain⟨t,e⟩:=(show ∃t,u=Value.str x t from r);subst e;exact Gq P w x t
section
variable {P:Program} {w:World} {H:Hp} {h:Heap} {a:Addr}
end
section
variable {X:Cx} {pins:List (Addr×Obj)} {σ:St} {H:Hp} {s:Shared} {a:Addr} {y v:V} {u r:Value} {o:Option V} {A:Around} {E:Value→Shared→Prop}
end
section
variable {X:Cx} {pins:List (Addr×Obj)} {σ:St} {H:Hp} {s:Shared} {a:Addr} {kvs:List (yG×V)} {k:yG} {u:Value} {A:Around} {E:Value→Shared→Prop}
end
def Pp (i:Expr):Prop:=∀ov iv,subscripted i false ov iv=operate [ov,iv] (getItem ov iv)
theorem NS {prog:Program} {w:World} {A:Around} {E:Value→Shared→Prop} {s:Shared} {env:Env} {value slice:Expr} {pos:Pos} {T id:String} {Q:Value→Shared→Prop}
  (hl:typeLookup (.type T) "__getitem__"=pure (some (.builtin id))) (hs:Pp slice)
  (h:wpAny (model prog w) A (eval value env) (fun o s₁=>wpAny (model prog w) A (eval slice env) (fun i s₂=>s₂.TypeIs o T∧wpAny (model prog w) A (getItem o i) Q E s₂) E s₁) E s):
  wpAny (model prog w) A (eval (.Subscript value slice pos) env) Q E s:=by
 refine Subscript_ (kR h (fun o s₁ h₁=>kR h₁ (fun i s₂ h₂=>?_) fun _ _ x=>x) fun _ _ x=>x)
 obtain⟨hT,h₂⟩:=h₂
 unfold subscriptTail
 refine bK ?_
 rw [getitemInPython_of_ne hT.not_modules]
 refine bK (wpAny_specialOf hT hl ?_)
 have fin:wpAny (model prog w) A (subscripted slice false o i) (fun r s₃=>wpAny (model prog w) A (letTemporaryGo value o r>>=fun _=>pure r) Q E s₃) E s₂:=by
  rw [hs o i]
  exact wpAny_operating (kR h₂ (fun r s₃ h₃=>bK (wpAny_letTemporaryGo (dR h₃))) fun _ _ x=>x)
 first
  | exact dR (bK fin)
  | exact bK (dR (bK fin))
  | exact bK fin
section
variable {X:Cx} {o i e value:Expr} {pos pos' tpos:Pos} {td ty tv:TE}
end
section
variable {X:Cx} {pos:Pos}
end
section
variable {X:Cx} {pins:List (Addr×Obj)} {σ:St} {H:Hp} {s:Shared} {a:Addr} {y d:V} {u r:Value} {o:Option V} {A:Around} {E:Value→Shared→Prop}
end
section
variable {X:Cx} {o e f:Expr} {apos cpos:Pos} {td ty tx:TE}
end
section
variable {X:Cx} {pins:List (Addr×Obj)} {σ:St} {H:Hp} {s:Shared} {a:Addr} {kvs:List (yG×V)} {A:Around} {E:Value→Shared→Prop}
end
section
variable {X:Cx} {pins:List (Addr×Obj)} {σ:St} {H:Hp} {s:Shared} {a:Addr} {y:V} {u:Value} {A:Around} {E:Value→Shared→Prop}
end
end L2
namespace L2
open PySem PySem.Spec PyProof.Rows
section
variable {prog:Program} {w:World} {A:Around} {E:Value→Shared→Prop}
end
section
variable {X:Cx}
end
end L2
namespace L2
open PySem PySem.Spec PyProof.Rows
section
variable {X:Cx} {pins:List (Addr×Obj)} {σ:St} {H:Hp} {s:Shared} {h':Heap}
theorem be.turnedL {t':Nat} {ch:List Addr} (I:be X pins σ H s) (k:∀b o,b ∉ ch→s.heap.get? b=some o→h'.get? b=some o) (hf:∀b∈ch,AE X pins H b):be X pins σ H {s with heap:=h',toks:=t'}:=by
 have nit:∀b u,H b=some u→b ∉ ch:=fun b u e z=>by
  have q:=(hf b z).1
  rw [q] at e;cases e
 refine I.step (g':=s.gens) (d':=s.drawn) (ch:=ch) (fun b hb=>⟨(hf b hb).2.2.2.1,(hf b hb).2.1,(hf b hb).2.2.2.2.1,(hf b hb).2.2.2.2.2⟩) (fun b o _ _ hc e _=>k b o hc e) (fun b o _ _ hc e _=>⟨o.slots,k b o hc e⟩)
  (fun _ _ _ _ n=>n) (fun b o hc e=>⟨o,k b o hc e⟩) (fun _ _ e=>e) (fun _ _ _ e=>e) (fun b ps e=>⟨#[],by rw [e];simp⟩) (fun m hm=>?_) (fun b u e=>?_) I.bare
 ·obtain⟨o,es,ep,ho,r⟩:=hm
  exact⟨o,es,ep,k _ o (fun z=>(hf _ z).2.1 rfl) ho,r⟩
 ·refine(I.hok b u e).stay (fun c v hc q=>k c v ?_ q) (fun _ q=>q) fun _ _ q=>q
  rcases hc with z | z
  ·rw [z];exact nit b u e
  ·exact nit c _ z
theorem be.turnedNew {t':Nat} {ch:List Addr} {T:Addr} {ob:HO} (I:be X pins σ H s) (k:∀b o,b ∉ ch→s.heap.get? b=some o→h'.get? b=some o) (hf:∀b∈ch,AE X pins H b) (hT:s.heap.objs.size≤T)
  (new:iF X.prog X.w (bT H T ob) h' T ob):be X pins σ (bT H T ob) {s with heap:=h',toks:=t'}:=by
 have hn:H T=none:=I.hok.fresh hT
 have nit:∀b u,H b=some u→b ∉ ch:=fun b u e z=>by
  have q:=(hf b z).1
  rw [q] at e;cases e
 refine I.step (g':=s.gens) (d':=s.drawn) (ch:=ch) (fun b hb=>⟨(hf b hb).2.2.2.1,(hf b hb).2.1,(hf b hb).2.2.2.2.1,(hf b hb).2.2.2.2.2⟩) (fun b o _ _ hc e _=>k b o hc e) (fun b o _ _ hc e _=>⟨o.slots,k b o hc e⟩)
  (fun b o _ e n=>?_) (fun b o hc e=>⟨o,k b o hc e⟩) (fun b xs e=>?_) (fun b o u e=>?_) (fun b ps e=>⟨#[],?_⟩) (fun m hm=>?_) (fun b u e=>?_) I.bare
 ·rw [ak (fm (gR (fo e) hT))];exact n
 ·rw [ak (aw e hn)];exact e
 ·rw [ak (aw e hn)];exact e
 ·rw [ak (aw e hn),e];simp
 ·obtain⟨o,es,ep,ho,r⟩:=hm
  exact⟨o,es,ep,k _ o (fun z=>(hf _ z).2.1 rfl) ho,r⟩
 ·by_cases hb:b=T
  ·subst hb
   rw [af] at e
   cases e
   exact new
  ·rw [ak hb] at e
   refine(I.hok b u e).stay (fun c v hc q=>k c v ?_ q) (fun c q=>by rw [ak (aw q hn)];exact q) fun c xs q=>by rw [ak (aw q hn)];exact q
   rcases hc with z | z
   ·rw [z];exact nit b u e
   ·exact nit c _ z
end
section
variable {X:Cx}
end
section
variable {X:Cx} {tg:Expr}
end
section
variable {X:Cx} {tg:Expr}
end
section
variable {prog:Program} {w:World} {A:Around} {E:Value→Shared→Prop} {s:Shared}
end
section
variable {X:Cx} {pins:List (Addr×Obj)} {σ:St} {H:Hp} {s:Shared} {d:Addr} {o:Obj}
end
section
variable {P:Program} {w:World} {K:PySem.W.Frag} {tg:Expr} {d:Addr} {o:Obj} {es:Array DictEntry} {ep:Nat}
end
section
variable {X:Cx} {tg e:Expr} {td:TE} {apos cpos:Pos}
end
theorem Ka:bootBuiltins "zip"=some (.type "zip"):=by decide+kernel
def Po (K:PySem.W.Frag) (a b:Addr):It:=
 ⟨fun i H=>∃(xs ys:List V) (x y:V),a5 K H a xs∧a5 K H b ys∧xs[i]?=some x∧ys[i]?=some y,
  fun i H v H'=>∃T x y,v= .ref T∧H T=none∧H'=bT H T (.tup [x,y])∧(∀xs,a5 K H a xs→xs[i]?=some x)∧∀ys,a5 K H b ys→ys[i]?=some y,
  fun i H=>∃xs ys:List V,a5 K H a xs∧a5 K H b ys∧(xs.length≤i∨ys.length≤i)⟩
theorem MK {P:Program} {w:World} {K:PySem.W.Frag} {elts:List Expr} {kk:Nat} {tpos:Pos} {a b z TI TO i1 i2:Addr} (D:ZipApart z TI TO i1 i2 a b):
  M8 P w K (.Tuple elts kk tpos) (Po K a b) [z,TI,TO,i1,i2] z (fun i h=>IsZip h z TI TO .none∧IsPair h TI (.ref i1) (.ref i2)∧(∃x y,IsPair h TO x y)∧h.IsListIter i1 a i∧h.IsListIter i2 b i) where
 mem:=by simp
 obj:=fun i h st c hc=>by
  obtain⟨hz,hTI,⟨x,y,hTO⟩,⟨o1,e1,_,d1⟩,⟨o2,e2,_,d2⟩⟩:=st
  have e':c=z∨c=TI∨c=TO∨c=i1∨c=i2:=by simpa using hc
  rcases e' with q | q | q | q | q
  ·rw [q];exact⟨_,hz,fun v q=>nomatch q⟩
  ·rw [q];exact⟨_,hTI,fun v q=>nomatch q⟩
  ·rw [q];exact⟨_,hTO,fun v q=>nomatch q⟩
  ·rw [q];exact⟨o1,e1,fun v q=>by rw [d1] at q;cases q⟩
  ·rw [q];exact⟨o2,e2,fun v q=>by rw [d2] at q;cases q⟩
 keep:=fun i h h' st k=>by
  obtain⟨hz,hTI,⟨x,y,hTO⟩,h1,h2⟩:=st
  exact⟨k z (by simp) _ hz,k TI (by simp) _ hTI,⟨x,y,k TO (by simp) _ hTO⟩,h1.at fun o q=>k i1 (by simp) o q,h2.at fun o q=>k i2 (by simp) o q⟩
 item:=by
  intro X hP hw hK hc i pins s σ H E I hf st hg
  subst hP hw hK
  obtain⟨hz,hTI,⟨x0,y0,hTO⟩,h1,h2⟩:=st
  obtain⟨xs,ys,x,y,hqx,hqy,hx,hy⟩:=hg
  obtain⟨its,rv,p,_⟩:=I.list hqx
  obtain⟨its2,rv2,p2,_⟩:=I.list hqy
  obtain⟨u,hu,ru⟩:=rv.get hx
  obtain⟨u2,hu2,ru2⟩:=rv2.get hy
  have hzl:z<s.heap.objs.size:=fo hz
  refine wpAny_pyNext_zip_item D hz hTI hTO h1 h2 p.isList p2.isList (x:=u) (y:=u2) (by simpa using hu) (by simpa using hu2) fun h' z' TO' h1' h2' hT hsz hk=>?_
  refine⟨_,rfl,wpAny_letOwnedTupleGo_zip (s:={s with heap:=h'}) z' fun h'' z'' sb=>?_⟩
  have hT2:h''.get? s.heap.objs.size=some {cls:= .type "tuple",data:= .seq #[u,u2]}:=(sb.2 _ (Nat.ne_of_gt hzl)).trans hT
  have new:iF X.prog X.w (bT H s.heap.objs.size (.tup [x,y])) h'' s.heap.objs.size (.tup [x,y]):=
   ⟨by show 2≤sizeLine;decide,[u,u2],.cons ru (.cons ru2 .nil),⟨_,hT2,rfl,_,rfl⟩⟩
  have I1:be X pins σ (bT H s.heap.objs.size (.tup [x,y])) {s with heap:=h''}:=
   I.turnedNew (t':=s.toks) (ch:= [z,TI,TO,i1,i2]) (fun c o hb q=>(sb.2 c (fun q'=>hb (by simp [q']))).trans (hk c o (fun q'=>hb (by simp [q'])) (fun q'=>hb (by simp [q'])) (fun q'=>hb (by simp [q'])) (fun q'=>hb (by simp [q'])) q)) hf (bq _) new
  refine⟨.ref s.heap.objs.size,_,I1,rfl,⟨_,x,y,rfl,I.hok.fresh (bq _),rfl,fun l hl=>by rw [I.list_inj hl hqx];exact hx,fun l hl=>by rw [I.list_inj hl hqy];exact hy⟩,⟨z'',?_,⟨u,u2,?_⟩,?_,?_⟩,fun c hcm=>?_⟩
  ·exact(sb.2 _ D.TIz).trans (hk _ _ D.TIz D.TITO D.TIi1 D.TIi2 hTI)
  ·exact(sb.2 _ D.TOz).trans TO'
  ·exact h1'.at fun o q=>(sb.2 _ D.i1z).trans q
  ·exact h2'.at fun o q=>(sb.2 _ D.i2z).trans q
  ·have hlt:c<s.heap.objs.size:=by
    have e':c=z∨c=TI∨c=TO∨c=i1∨c=i2:=by simpa using hcm
    rcases e' with q | q | q | q | q
    ·rw [q];exact hzl
    ·rw [q];exact fo hTI
    ·rw [q];exact fo hTO
    ·rw [q];obtain⟨_,e1,_⟩:=h1;exact fo e1
    ·rw [q];obtain⟨_,e2,_⟩:=h2;exact fo e2
   rw [ak (fm hlt)]
   exact(hf c hcm).1
 done:=by
  intro X hP hw hK hc i pins s σ H E I hf st hg
  subst hP hw hK
  obtain⟨hz,hTI,⟨x0,y0,hTO⟩,h1,h2⟩:=st
  obtain⟨xs,ys,hqx,hqy,hend⟩:=hg
  obtain⟨its,rv,p,_⟩:=I.list hqx
  obtain⟨its2,rv2,p2,_⟩:=I.list hqy
  have l1:=rv.length
  have l2:=rv2.length
  have he:its.toArray[i]?=none∨its2.toArray[i]?=none:=by
   rcases hend with q | q
   ·exact .inl (by simp;omega)
   ·exact .inr (by simp;omega)
  exact wpAny_pyNext_zip_end (I.ok.hd hc) D hz hTI hTO h1 h2 p.isList p2.isList he fun h' hk=>⟨rfl,I.turnedL (t':=s.toks) (ch:= [z,TI,TO,i1,i2]) (fun c o hb q=>
   hk c o (fun q'=>hb (by simp [q'])) (fun q'=>hb (by simp [q'])) (fun q'=>hb (by simp [q'])) (fun q'=>hb (by simp [q'])) q) hf⟩
 self:=fun A i s Q E st h=>wpAny_pyIter_zip st.1 h
def QJ (K:PySem.W.Frag) (ta:TA):TI:=fun σ H R=>ta σ H fun vs H1=>∃a b xs ys,vs= [.ref a,.ref b]∧a5 K H1 a xs∧a5 K H1 b ys∧R (Po K a b) H1
theorem OV {X:Cx} {e e2:Expr} {ta:TA} {p pos tpos:Pos} {elts:List Expr} {kk:Nat} (hg:Gl X "zip") (hm:X.mg "zip"=none) (ha:PA X [e,e2] ta)
  (hs:starEach [e,e2] X.env=(false,eval e X.env)::starEach [e2] X.env:=by rfl) (hpl:(backTo pos (starEach [e2] X.env)).any (·.1)=false:=by rfl):
  PI X (.Tuple elts kk tpos) (.Call (.Name "zip" p) [e,e2] [] pos) (QJ X.K ta):=by
 intro pins s σ H R I h
 refine Call_ (v8 I hg hm Ka (C2 (eS (ha pos pins s σ H _ I h) fun us s1 ⟨vs,H1,I1,r1,q1⟩=>?_) hs hpl))
 obtain⟨a,b,xs,ys,ex,hqx,hqy,q⟩:=q1
 subst ex
 cases r1 with
 | cons r rr=>
  cases rr with
  | cons r' rr=>
   cases rr
   cases r
   cases r'
   obtain⟨its,rv,p1,_⟩:=I1.list hqx
   obtain⟨its2,rv2,p2,_⟩:=I1.list hqy
   have la:a<s1.heap.objs.size:=p1.lt
   have lb:b<s1.heap.objs.size:=p2.lt
   refine call_zip_2 p1.isList p2.isList fun h' hz hTI hTO h1 h2 hsz hk=>wpAny_pyIter_zip hz ?_
   have I2:be X pins σ H1 {s1 with heap:=h'}:=I1.kept (t':=s1.toks) hk
   refine⟨s1.heap.objs.size+4,[s1.heap.objs.size+4,s1.heap.objs.size+2,s1.heap.objs.size+3,s1.heap.objs.size,s1.heap.objs.size+1],_,_,H1,rfl,I2,MK (PySem.W.ktu_apart s1.heap.objs.size a b la lb),⟨hz,hTI,⟨_,_,hTO⟩,h1,h2⟩,fun c hcm=>?_,q⟩
   have e':c=s1.heap.objs.size+4∨c=s1.heap.objs.size+2∨c=s1.heap.objs.size+3∨c=s1.heap.objs.size∨c=s1.heap.objs.size+1:=by simpa using hcm
   have hle:s1.heap.objs.size≤c:=by
    rcases e' with z | z | z | z | z
    ·rw [z];exact Nat.le_add_right _ _
    ·rw [z];exact Nat.le_add_right _ _
    ·rw [z];exact Nat.le_add_right _ _
    ·rw [z];exact bq _
    ·rw [z];exact Nat.le_add_right _ _
   exact I1.fpOk hle (I1.hok.fresh hle)
end L2
section
namespace Bits
open PySem PyProof.Rows
end Bits
end
section
namespace TL
open PySem PySem.Builtin PySem.Builtin.Str PySem.StrLaws
end TL
end
namespace L2
open PySem PySem.Spec PyProof.Rows
section
variable {X:Cx} {pins:List (Addr×Obj)} {σ:St} {H:Hp} {s:Shared} {Q:VK}
end
section
variable {X:Cx}
end
section
variable {X:Cx} {o e:Expr} {to te:TE}
end
end L2
namespace L2
open PySem PySem.Spec PyProof.Rows
section
variable {X:Cx}
end
end L2
namespace Att
open PySem PySem.W PySem.Calls PyProof.Rows
section
variable {prog:Program} {w:World} {A:Around} {E:Value→Shared→Prop} {s:Shared} {K:Frag}
end
end Att
namespace L2
open PySem PySem.Spec PyProof.Rows
end L2
namespace L2
open PySem PySem.Spec PyProof.Rows
end L2
namespace L2
open PySem PySem.Spec PyProof.Rows
def bv (s:Stmt) (j:Nat):Stmt:=match s with
 | .ClassDef _ _ _ body _ _ _ _ _ _ _=>body.getD j (.Pass ⟨0,0,0,0⟩)
 | _=> .Pass ⟨0,0,0,0⟩
def qc (s:Stmt):Arguments:=match s with
 | .FunctionDef _ a _ _ _ _ _ _ _ _=>a
 | _=>{posonlyargs:= [],args:= [],vararg:=none,kwonlyargs:= [],kw_defaults:= [],kwarg:=none,defaults:= []}
def jB (s:Stmt):List Stmt:=match s with
 | .FunctionDef _ _ b _ _ _ _ _ _ _=>b
 | _=> []
def ag (s:Stmt):Scope:=match s with
 | .FunctionDef _ _ _ _ _ _ sc _ _ _=>sc
 | _=>{kind:= .function,names:= [],isGenerator:=false,isCoroutine:=false}
abbrev Bi:Ll:=fun _ _ _ _ _ _=>False
abbrev E0:XK:=fun _ _ _=>False
theorem Ab {X:Cx}:tD Bi X E0:=fun _ _ _ _ _ _ _ h=>h.elim
structure Oj (K:PySem.W.Frag) (x qual:Str) (st:Stmt) (f:Addr) (fd:FuncData):Prop where
 ex:∃(oc:Value) (od:Option Addr) (kV doc pm:Value) (an:Option Addr) (cdv ct:Value) (osl:Array (Option Value)),
  fd=PySem.W.fnOf x qual (qc st) (jB st) (ag st) .none kV doc pm an cdv ct∧K.lookup f=some ⟨oc,od,.func fd,osl⟩∧PySem.W.codeIn K cdv qual=true
 kp:PySem.W.keepIn K (.ref f)=true
section
variable {P:Program} {w:World} {K:PySem.W.Frag} {mg:Str→Option Value} {base:Heap}
theorem Oj.ok {x qual:Str} {st:Stmt} {f:Addr} {fd:FuncData} {N ps:List Str} {k:Nat} {sp:Sp} (F:Oj K x qual st f fd) (S:ap N ps (ag st)) (len:∀vs H Q E,sp vs H Q E→vs.length=ps.length)
  (hbody:∀(cdv:Value) (A:Around) (outer:List Env) (s:Shared) (H:Hp) (vs:List V) (Q:VK) (E:XK),eU k (A.deeper (envOfC qual (ag st) s.heap.objs.size f cdv))→sp vs H Q E→
   ∃t,HS (ER Bi P w K mg base N qual (ag st) f cdv A outer s H E).nox (jB st) t∧t {nx:=fun _ H'=>Q .non H',rt:=Q} (start N vs) H):j1 P w K mg base Bi (k+1) f fd ps sp:=by
 obtain⟨oc,od,kV,doc,pm,an,cdv,ct,osl,rfl,lk,hcd⟩:=F.ex
 refine N6 lk hcd S len fun A outer s H vs Q E hr hsp=>?_
 obtain⟨t,h,q⟩:=hbody cdv A outer s H vs Q E hr hsp
 exact⟨t,h.nox,q⟩
theorem LK {x qual:Str} {st:Stmt} {f:Addr} {oc:Value} {od an:Option Addr} {osl:Array (Option Value)} {kV doc pm cdv ct:Value} (l:K.lookup f=some ⟨oc,od,.func (PySem.W.fnOf x qual (qc st) (jB st) (ag st) .none kV doc pm an cdv ct),osl⟩)
  (c:PySem.W.codeIn K cdv qual=true) (k:PySem.W.keepIn K (.ref f)=true):Oj K x qual st f (PySem.W.fnOf x qual (qc st) (jB st) (ag st) .none kV doc pm an cdv ct):=⟨⟨oc,od,kV,doc,pm,an,cdv,ct,osl,rfl,l,c⟩,k⟩
end
section
variable {X:Cx}
theorem pv (i:Nat) {x:Str} {pos:Pos} (hN:X.N[i]?=some x:=by rfl) (hv:Oq X.env.scope x:=by first | exact Or.inl rfl | exact Or.inr (Or.inl rfl) | exact Or.inr (Or.inr rfl)) (hd:(x==("__debug__":Str))=false:=by decide)
  (hcd:(x==("__classdict__":Str))=false:=by decide):PE X (.Name x pos) (O9 i):=Mr hN hv hd hcd
end
theorem jC {A B:Prop} (h:A):if true=true then A else B:=by
 rw [if_pos rfl]
 exact h
theorem aX {c A B:Prop} [Decidable c] (h1:c→A) (h2:¬c→B):if c then A else B:=by
 by_cases h:c
 ·rw [if_pos h]
  exact h1 h
 ·rw [if_neg h]
  exact h2 h
def aC (H H':Hp):Prop:=∀b o,H b=some o→H' b=some o
theorem aC.trans {H H1 H2:Hp} (a:aC H H1) (b:aC H1 H2):aC H H2:=fun c o h=>b c o (a c o h)
theorem aC.free {H H':Hp} (e:aC H H') {l:Addr} (h:H' l=Option.none):H l=Option.none:=by
 cases q:H l with
 | none=>rfl
 | some o=>
  rw [e l o q] at h
  cases h
theorem aC.seq {K:PySem.W.Frag} {H H':Hp} {a:Addr} {xs:List V} (e:aC H H') (h:a5 K H a xs):a5 K H' a xs:=by
 rcases h with(h | ⟨o,h⟩) | h
 ·exact .inl (.inl (e _ _ h))
 ·exact .inl (.inr ⟨o,e _ _ h⟩)
 ·exact .inr h
section
variable {κ:Type} [DecidableEq κ]
end
theorem vy {xs:List V} {z:Int} {j:Nat} {v:V} (e:z=(j:Int)) (h:xs[j]?=some v):Lk xs z=some v:=by
 rw [e]
 exact Nb h
theorem PV {α:Type} {l:List α} (hN:l.Nodup) {i j:Nat} {x:α} (a:l[i]?=some x) (b:l[j]?=some x):i=j:=by
 obtain⟨h1,e1⟩:=cg.mp a
 obtain⟨h2,e2⟩:=cg.mp b
 exact(List.getElem_inj hN).mp (e1.trans e2.symm)
theorem aC.made {H H1:Hp} {x dx C:Addr} (nx:H x=Option.none) (nd:H dx=Option.none) (k:∀b o,(bT (bT H dx (.own x)) x (.ins C dx [])) b=some o→b≠x→H1 b=some o):aC H H1:=fun b o e=>
 k b o (by rw [ak (aw e nx),ak (aw e nd)];exact e) (aw e nx)
end L2
end
section
section
namespace L2
open PySem PySem.Spec PyProof.Rows
open PySem.W (WData Codec OpenSpec Well WellAll ReadsW ReadsAllW)
mutual
inductive Dw (K:PySem.W.Frag) (H:Hp):V→WData→Prop
 | non:Dw K H .non .none
 | bl (b:Bool):Dw K H (.bl b) (.bool b)
 | int (i:Int):Dw K H (.int i) (.int i)
 | str (x:Str):Dw K H (.str x) (.str x)
 | byt (b:Array UInt8):Dw K H (.byt b) (.bytes b.toList)
 | lst {a:Addr} {xs:List V} {ds:List WData}:a5 K H a xs→tw K H xs ds→Dw K H (.ref a) (.list ds)
 | tup {a:Addr} {xs:List V} {ds:List WData}:HU K H a xs→tw K H xs ds→Dw K H (.ref a) (.tuple ds)
inductive tw (K:PySem.W.Frag) (H:Hp):List V→List WData→Prop
 | nil:tw K H [] []
 | cons {v:V} {vs:List V} {d:WData} {ds:List WData}:Dw K H v d→tw K H vs ds→tw K H (v::vs) (d::ds)
end
theorem Jq {K:PySem.W.Frag} {H:Hp}:∀ns:List Int,tw K H (ns.map V.int) (ns.map WData.int)
 | []=> .nil
 | n::r=> .cons (.int n) (Jq r)
theorem Ju {K:PySem.W.Frag} {H:Hp}:∀(ns:List Int) (xs:List V),tw K H xs (ns.map WData.int)→xs=ns.map V.int
 | [],xs,h=>by
  cases h
  rfl
 | n::r,xs,h=>by
  cases h with
  | cons h1 h2=>
   cases h1
   rw [Ju r _ h2]<;>rfl
section
variable {P:Program} {w:World} {K:PySem.W.Frag} {H:Hp} {h:Heap} {R:PySem.W.WRecords} {cl:Str→Option Addr}
theorem O3 {a:Addr} {xs:List V} (hok:vW P w H h) (KX:K.In h) (q:a5 K H a xs):∃(its:List Value) (o:Obj) (n:Nat),bO xs its∧h.get? a=some o∧o.cls= .type "list"∧o.data= .seq its.toArray n:=by
 rcases q with q | ⟨o,its,n,e,hc,_,hd,_,hv⟩
 ·obtain⟨_,its,n,hv,e⟩:=(show iF P w H h a (.lst xs) from q.ok hok)
  exact⟨its,_,n,hv,e,rfl,rfl⟩
 ·exact⟨its.toList,o,n,hv,KX _ _ e,hc,by simp [hd]⟩
theorem O4 {a:Addr} {xs:List V} (hok:vW P w H h) (KX:K.In h) (q:HU K H a xs):∃(its:List Value) (o:Obj) (n:Nat),bO xs its∧h.get? a=some o∧o.cls= .type "tuple"∧o.data= .seq its.toArray n:=by
 rcases q with q | ⟨o,its,n,e,hc,hd,_,hv⟩
 ·obtain⟨_,its,hv,o,e,hc,n,hd⟩:=(show iF P w H h a (.tup xs) from q.ok hok)
  exact⟨its,o,n,hv,e,hc,hd⟩
 ·exact⟨its.toList,o,n,hv,KX _ _ e,hc,by simp [hd]⟩
mutual
theorem Dw.reads (hok:vW P w H h) (KX:K.In h):∀(d:WData) (v:V) (u:Value),Dw K H v d→cZ v u→∃as,ReadsW R cl h u d as
 | .none,_,_,x,r=>by
  cases x
  cases r
  exact⟨_,ReadsW.none⟩
 | .bool b,_,_,x,r=>by
  cases x
  cases r
  exact⟨_,ReadsW.bool b⟩
 | .int i,_,_,x,r=>by
  cases x
  obtain⟨t,rfl⟩:=r
  exact⟨_,ReadsW.int i t⟩
 | .str s,_,_,x,r=>by
  cases x
  obtain⟨t,rfl⟩:=r
  exact⟨_,ReadsW.str s t⟩
 | .bytes b,_,_,x,r=>by
  cases x
  obtain⟨t,rfl⟩:=r
  exact⟨_,ReadsW.bytes _ t⟩
 | .list ds,_,_,x,r=>by
  cases x with
  | lst hs ha=>
   cases r
   obtain⟨its,o,n,rv,ho,hc,hd⟩:=O3 hok KX hs
   obtain⟨as,hr⟩:=Dw.readsAll hok KX ds _ its ha rv
   exact⟨_,ReadsW.list ho hc hd hr⟩
 | .tuple ds,_,_,x,r=>by
  cases x with
  | tup hs ha=>
   cases r
   obtain⟨its,o,n,rv,ho,hc,hd⟩:=O4 hok KX hs
   obtain⟨as,hr⟩:=Dw.readsAll hok KX ds _ its ha rv
   exact⟨_,ReadsW.tuple ho hc hd hr⟩
 | .float _,_,_,x,_=>by cases x
 | .dict _,_,_,x,_=>by cases x
 | .bytearray _,_,_,x,_=>by cases x
 | .set _,_,_,x,_=>by cases x
 | .frozenset _,_,_,x,_=>by cases x
 | .obj _ _,_,_,x,_=>by cases x
theorem Dw.readsAll (hok:vW P w H h) (KX:K.In h):∀(ds:List WData) (vs:List V) (us:List Value),tw K H vs ds→bO vs us→∃as,ReadsAllW R cl h us ds as
 | [],_,_,x,r=>by
  cases x
  cases r
  exact⟨_,ReadsAllW.nil⟩
 | d::ds,_,_,x,r=>by
  cases x with
  | cons h1 h2=>
   cases r with
   | cons r1 r2=>
    obtain⟨as,q1⟩:=Dw.reads hok KX d _ _ h1 r1
    obtain⟨bs,q2⟩:=Dw.readsAll hok KX ds _ _ h2 r2
    exact⟨_,ReadsAllW.cons q1 q2⟩
end
end
mutual
def JK:WData→Bool
 | .none=>true
 | .bool _=>true
 | .int _=>true
 | .str _=>true
 | .bytes _=>true
 | .list xs=>AR xs
 | .tuple xs=>AR xs
 | _=>false
def AR:List WData→Bool
 | []=>true
 | x::r=>JK x && AR r
end
theorem GN {α:Type} {f:α→WData} (h:∀a,JK (f a)=true):∀l:List α,AR (l.map f)=true
 | []=>rfl
 | x::r=>by
  show(JK (f x) && AR (r.map f))=true
  rw [h x,GN h r]<;>rfl
theorem tT:∀(c:Codec) (a:c.denote),JK (c.enc a)=true
 | .unit,_=>rfl
 | .bool,_=>rfl
 | .int _ _,_=>rfl
 | .nat _ _,_=>rfl
 | .u8,_=>rfl
 | .bytes _ _,_=>rfl
 | .text _ _ _ _,_=>rfl
 | .list _ _ c,a=>GN (fun x=>tT c x) a
 | .pair c d,a=>by
  show(JK (c.enc a.1) && (JK (d.enc a.2) && true))=true
  rw [tT c a.1,tT d a.2]<;>rfl
 | .triple c d e,a=>by
  show(JK (c.enc a.1) && (JK (d.enc a.2.1) && (JK (e.enc a.2.2) && true)))=true
  rw [tT c a.1,tT d a.2.1,tT e a.2.2]<;>rfl
 | .option c,none=>rfl
 | .option c,some x=>tT c x
theorem Ei:∀(cs:List Codec) (a:Codec.denoteAll cs),AR (Codec.encAll cs a)=true
 | [],_=>rfl
 | c::cs,a=>by
  show(JK (c.enc a.1) && AR (Codec.encAll cs a.2))=true
  rw [tT c a.1,Ei cs a.2]<;>rfl
theorem wO:∀{xs:List WData} {d:WData},d∈xs→d.weight≤WData.weightAll xs
 | [],d,h=>absurd h (by simp)
 | x::r,d,h=>by
  show d.weight≤x.weight+1+WData.weightAll r
  rcases cH.mp h with e | m
  ·rw [e]
   omega
  ·have z:=wO m
   omega
def Hw:Value→V
 | .none=> .non
 | .bool b=> .bl b
 | .int i _=> .int i
 | .str x _=> .str x
 | .bytes b _=> .byt b
 | .ref a=> .ref a
 | _=> .non
def J5 (A:List Addr):Value→Prop
 | .none=>True
 | .bool _=>True
 | .int _ _=>True
 | .str _ _=>True
 | .bytes _ _=>True
 | .ref a=>a∈A
 | _=>False
theorem J5.mono {A B:List Addr} (h:∀a∈A,a∈B):∀{u:Value},J5 A u→J5 B u:=fun {u} x=>by
 cases u with
 | ref a=>exact h a x
 | none=>trivial
 | bool b=>trivial
 | int i t=>trivial
 | str s t=>trivial
 | bytes b t=>trivial
 | _=>exact False.elim x
theorem MA {A:List Addr} {u:Value} (x:J5 A u):cZ (Hw u) u:=by
 cases u with
 | ref a=>rfl
 | none=>rfl
 | bool b=>rfl
 | int i t=>exact⟨t,rfl⟩
 | str s t=>exact⟨t,rfl⟩
 | bytes b t=>exact⟨t,rfl⟩
 | _=>exact False.elim x
theorem pM {A:List Addr}:∀{vs:List Value},(∀u∈vs,J5 A u)→bO (vs.map Hw) vs
 | [],_=> .nil
 | u::r,h=> .cons (MA (h u (fD ..))) (pM fun x hx=>h x (dX _ hx))
def tu (h:Heap) (A:List Addr) (a:Addr):Prop:=∃vs:List Value,vs.length≤sizeLine∧(∀u∈vs,J5 A u)∧
 (h.get? a=some {cls:= .type "list",data:= .seq vs.toArray}∨h.get? a=some {cls:= .type "tuple",data:= .seq vs.toArray})
theorem tu.mono {h:Heap} {A B:List Addr} {a:Addr} (k:∀a∈A,a∈B) (x:tu h A a):tu h B a:=by
 obtain⟨vs,h1,h2,h3⟩:=x
 exact⟨vs,h1,fun u hu=>(h2 u hu).mono k,h3⟩
theorem n4 {P:Params} {h:Heap}:∀{vs:List Value} {ds:List WData},WellAll P h vs ds→vs.length=ds.length
 | _,_,.nil=>rfl
 | _,_,.cons _ b=>by
  show _+1=_+1
  rw [n4 b]
theorem EE {P:Params} {h:Heap} {v:Value} {ds:List WData} (x:Well P h v (.list ds)):∃(a:Addr) (vs:List Value),v= .ref a∧h.get? a=some {cls:= .type "list",data:= .seq vs.toArray}∧WellAll P h vs ds:=by
 cases x with
 | list ho hall=>exact⟨_,_,rfl,ho,hall⟩
theorem CY {P:Params} {h:Heap} {v:Value} {ds:List WData} (x:Well P h v (.tuple ds)):∃(a:Addr) (vs:List Value),v= .ref a∧h.get? a=some {cls:= .type "tuple",data:= .seq vs.toArray}∧WellAll P h vs ds:=by
 cases x with
 | tuple ho hall=>exact⟨_,_,rfl,ho,hall⟩
theorem ED {P:Params} {h:Heap} {us:List Value} {d:WData} {ds:List WData} (x:WellAll P h us (d::ds)):∃(v:Value) (vs:List Value),us=v::vs∧Well P h v d∧WellAll P h vs ds:=by
 cases x with
 | cons a b=>exact⟨_,_,rfl,a,b⟩
theorem Jz {n:Nat} (h:n≤1048576):n≤sizeLine:=fS h ()
section
variable {P:Params} {h:Heap}
mutual
theorem Lv:∀(d:WData) (v:Value),Well P h v d→JK d=true→d.weight≤1048576→∃A:List Addr,J5 A v∧∀a∈A,tu h A a
 | .none,_,x,_,_=>by
  cases x
  exact⟨[],trivial,fun a m=>absurd m (by simp)⟩
 | .bool b,_,x,_,_=>by
  cases x
  exact⟨[],trivial,fun a m=>absurd m (by simp)⟩
 | .int i,_,x,_,_=>by
  cases x
  exact⟨[],trivial,fun a m=>absurd m (by simp)⟩
 | .str s,_,x,_,_=>by
  cases x
  exact⟨[],trivial,fun a m=>absurd m (by simp)⟩
 | .bytes b,_,x,_,_=>by
  cases x
  exact⟨[],trivial,fun a m=>absurd m (by simp)⟩
 | .list ds,_,x,p,z=>by
  obtain⟨a,vs,rfl,ho,hall⟩:=EE x
  have z2:WData.weightAll ds≤1048576:=z
  obtain⟨A,h1,h2⟩:=xi ds _ hall p fun d hd=>fS (wO hd) z2
  have k:∀b∈A,b∈a::A:=fun b hb=>dX _ hb
  refine⟨a::A,fD ..,fun b hb=>?_⟩
  rcases cH.mp hb with e | m
  ·rw [e]
   exact⟨vs,Jz (by rw [n4 hall];exact fS (PySem.W.length_le_weightAllW ds) z2),fun u hu=>(h1 u hu).mono k,.inl ho⟩
  ·exact(h2 b m).mono k
 | .tuple ds,_,x,p,z=>by
  obtain⟨a,vs,rfl,ho,hall⟩:=CY x
  have z2:WData.weightAll ds≤1048576:=z
  obtain⟨A,h1,h2⟩:=xi ds _ hall p fun d hd=>fS (wO hd) z2
  have k:∀b∈A,b∈a::A:=fun b hb=>dX _ hb
  refine⟨a::A,fD ..,fun b hb=>?_⟩
  rcases cH.mp hb with e | m
  ·rw [e]
   exact⟨vs,Jz (by rw [n4 hall];exact fS (PySem.W.length_le_weightAllW ds) z2),fun u hu=>(h1 u hu).mono k,.inr ho⟩
  ·exact(h2 b m).mono k
 | .float _,_,_,p,_=>Bool.noConfusion (show false=true from p)
 | .dict _,_,_,p,_=>Bool.noConfusion (show false=true from p)
 | .bytearray _,_,_,p,_=>Bool.noConfusion (show false=true from p)
 | .set _,_,_,p,_=>Bool.noConfusion (show false=true from p)
 | .frozenset _,_,_,p,_=>Bool.noConfusion (show false=true from p)
 | .obj _ _,_,_,p,_=>Bool.noConfusion (show false=true from p)
theorem xi:∀(ds:List WData) (vs:List Value),WellAll P h vs ds→AR ds=true→(∀d∈ds,d.weight≤1048576)→∃A:List Addr,(∀u∈vs,J5 A u)∧∀a∈A,tu h A a
 | [],_,x,_,_=>by
  cases x
  exact⟨[],fun u m=>absurd m (by simp),fun a m=>absurd m (by simp)⟩
 | d::ds,_,x,p,z=>by
  obtain⟨v,vs,rfl,x1,x2⟩:=ED x
  have q:JK d=true∧AR ds=true:=Jc.mp p
  obtain⟨A,a1,a2⟩:=Lv d v x1 q.1 (z d (fD ..))
  obtain⟨B,b1,b2⟩:=xi ds vs x2 q.2 fun e he=>z e (dX _ he)
  have kA:∀b∈A,b∈A++B:=fun b hb=>jT.mpr (.inl hb)
  have kB:∀b∈B,b∈A++B:=fun b hb=>jT.mpr (.inr hb)
  refine⟨A++B,fun u hu=>?_,fun b hb=>?_⟩
  ·rcases cH.mp hu with e | m
   ·rw [e]
    exact a1.mono kA
   ·exact(b1 u m).mono kB
  ·rcases jT.mp hb with m | m
   ·exact(a2 b m).mono kA
   ·exact(b2 b m).mono kB
end
end
def Nl (o:Obj):Option HO:=match o.data with
 | .seq vs _=>if (o.cls==Value.type "list")=true then some (.frz o (.lst (vs.toList.map Hw))) else some (.frz o (.tup (vs.toList.map Hw)))
 | _=>none
def lF (K:PySem.W.Frag) (h:Heap) (A:List Addr):Hp:=fun b=>if b∈A then(if (K.lookup b).isNone=true then(h.get? b).bind Nl else none) else none
def FW (H:Hp):Prop:=∀b,H b=none∨∃o u,H b=some (.frz o u)
theorem Gg (vs:List Value):Nl {cls:= .type "list",data:= .seq vs.toArray}=some (.frz {cls:= .type "list",data:= .seq vs.toArray} (.lst (vs.map Hw))):=by
 show(if (Value.type "list"==Value.type "list")=true then some (HO.frz {cls:= .type "list",data:= .seq vs.toArray} (.lst (vs.toArray.toList.map Hw))) else some (HO.frz {cls:= .type "list",data:= .seq vs.toArray} (.tup (vs.toArray.toList.map Hw))))=_
 rw [if_pos (beq_self_eq_true _)]
theorem Gi (vs:List Value):Nl {cls:= .type "tuple",data:= .seq vs.toArray}=some (.frz {cls:= .type "tuple",data:= .seq vs.toArray} (.tup (vs.map Hw))):=by
 show(if (Value.type "tuple"==Value.type "list")=true then some (HO.frz {cls:= .type "tuple",data:= .seq vs.toArray} (.lst (vs.toArray.toList.map Hw))) else some (HO.frz {cls:= .type "tuple",data:= .seq vs.toArray} (.tup (vs.toArray.toList.map Hw))))=_
 rw [if_neg ()]
section
variable {P:Program} {w:World} {K:PySem.W.Frag} {h:Heap} {A:List Addr}
theorem Bk {b:Addr} {o:Obj} (hb:b∈A) (hk:K.lookup b=none) (e:h.get? b=some o):lF K h A b=Nl o:=by
 unfold lF
 rw [if_pos hb,hk,if_pos (show(none:Option Obj).isNone=true from rfl),e]<;>rfl
theorem Nw {b:Addr} {u:HO} (q:lF K h A b=some u):b∈A∧K.lookup b=none:=by
 unfold lF at q
 by_cases hb:b∈A
 ·rw [if_pos hb] at q
  cases hk:K.lookup b with
  | none=>exact⟨hb,rfl⟩
  | some o=>
   rw [hk,if_neg (by simp)] at q
   cases q
 ·rw [if_neg hb] at q
  cases q
theorem xj (ar:∀a∈A,tu h A a) {b:Addr} {u:HO} (q:lF K h A b=some u):K.lookup b=none∧∃vs:List Value,vs.length≤sizeLine∧(∀u∈vs,J5 A u)∧
  ((h.get? b=some {cls:= .type "list",data:= .seq vs.toArray}∧u= .frz {cls:= .type "list",data:= .seq vs.toArray} (.lst (vs.map Hw)))∨
   (h.get? b=some {cls:= .type "tuple",data:= .seq vs.toArray}∧u= .frz {cls:= .type "tuple",data:= .seq vs.toArray} (.tup (vs.map Hw)))):=by
 obtain⟨hb,hk⟩:=Nw q
 obtain⟨vs,h1,h2,h3⟩:=ar b hb
 refine⟨hk,vs,h1,h2,?_⟩
 rcases h3 with e | e
 ·rw [Bk hb hk e,Gg] at q
  exact .inl ⟨e,(bG q).symm⟩
 ·rw [Bk hb hk e,Gi] at q
  exact .inr ⟨e,(bG q).symm⟩
theorem J6 (ar:∀a∈A,tu h A a):FW (lF K h A):=fun b=>by
 cases q:lF K h A b with
 | none=>exact .inl rfl
 | some u=>
  obtain⟨_,vs,_,_,⟨_,e⟩ | ⟨_,e⟩⟩:=xj ar q
  ·exact .inr ⟨_,_,by rw [e]⟩
  ·exact .inr ⟨_,_,by rw [e]⟩
theorem Br {c c':Value} {vs us:List Value} (e:(some {cls:=c,data:= .seq vs.toArray}:Option Obj)=some {cls:=c',data:= .seq us.toArray}):c=c'∧vs=us:=by
 have e1:=bG e
 have e2:c=c':=cA Obj.cls e1
 have e3:Data.seq vs.toArray=Data.seq us.toArray:=cA Obj.data e1
 injection e3 with e4
 refine⟨e2,?_⟩
 have e5:=cA Array.toList e4
 simpa using e5
theorem QB (KX:K.In h) (ar:∀a∈A,tu h A a) {a:Addr} {vs:List Value} (ha:a∈A) (e:h.get? a=some {cls:= .type "list",data:= .seq vs.toArray}):(∀u∈vs,J5 A u)∧a5 K (lF K h A) a (vs.map Hw):=by
 obtain⟨us,h1,h2,h3⟩:=ar a ha
 have hu:us=vs:=by
  rcases h3 with q | q
  ·rw [e] at q
   exact(Br q).2.symm
  ·rw [e] at q
   exact absurd (Value.type.inj (Br q).1) ()
 subst hu
 refine⟨h2,?_⟩
 cases hk:K.lookup a with
 | none=>exact .inl (.inr ⟨_,by rw [Bk ha hk e,Gg]⟩)
 | some o=>
  have e2:=KX a o hk
  rw [e] at e2
  obtain rfl:=bG e2
  exact .inr ⟨_,us.toArray,_,hk,rfl,rfl,rfl,by rw [fR];exact h1,by simpa using pM h2⟩
theorem QC (KX:K.In h) (ar:∀a∈A,tu h A a) {a:Addr} {vs:List Value} (ha:a∈A) (e:h.get? a=some {cls:= .type "tuple",data:= .seq vs.toArray}):(∀u∈vs,J5 A u)∧HU K (lF K h A) a (vs.map Hw):=by
 obtain⟨us,h1,h2,h3⟩:=ar a ha
 have hu:us=vs:=by
  rcases h3 with q | q
  ·rw [e] at q
   exact absurd (Value.type.inj (Br q).1) ()
  ·rw [e] at q
   exact(Br q).2.symm
 subst hu
 refine⟨h2,?_⟩
 cases hk:K.lookup a with
 | none=>exact .inl (.inr ⟨_,by rw [Bk ha hk e,Gi]⟩)
 | some o=>
  have e2:=KX a o hk
  rw [e] at e2
  obtain rfl:=bG e2
  exact .inr ⟨_,us.toArray,_,hk,rfl,rfl,by rw [fR];exact h1,by simpa using pM h2⟩
mutual
theorem Oz {Pm:Params} (KX:K.In h) (ar:∀a∈A,tu h A a):∀(d:WData) (v:Value),Well Pm h v d→JK d=true→J5 A v→Dw K (lF K h A) (Hw v) d
 | .none,_,x,_,_=>by
  cases x
  exact .non
 | .bool b,_,x,_,_=>by
  cases x
  exact .bl b
 | .int i,_,x,_,_=>by
  cases x
  exact .int i
 | .str s,_,x,_,_=>by
  cases x
  exact .str s
 | .bytes b,_,x,_,_=>by
  cases x
  have z:=Dw.byt (K:=K) (H:=lF K h A) b.toArray
  exact z
 | .list ds,_,x,p,hu=>by
  obtain⟨a,vs,rfl,ho,hall⟩:=EE x
  obtain⟨h2,hs⟩:=QB KX ar hu ho
  exact .lst hs (ES KX ar ds _ hall p h2)
 | .tuple ds,_,x,p,hu=>by
  obtain⟨a,vs,rfl,ho,hall⟩:=CY x
  obtain⟨h2,hs⟩:=QC KX ar hu ho
  exact .tup hs (ES KX ar ds _ hall p h2)
 | .float _,_,_,p,_=>Bool.noConfusion (show false=true from p)
 | .dict _,_,_,p,_=>Bool.noConfusion (show false=true from p)
 | .bytearray _,_,_,p,_=>Bool.noConfusion (show false=true from p)
 | .set _,_,_,p,_=>Bool.noConfusion (show false=true from p)
 | .frozenset _,_,_,p,_=>Bool.noConfusion (show false=true from p)
 | .obj _ _,_,_,p,_=>Bool.noConfusion (show false=true from p)
theorem ES {Pm:Params} (KX:K.In h) (ar:∀a∈A,tu h A a):∀(ds:List WData) (vs:List Value),WellAll Pm h vs ds→AR ds=true→(∀u∈vs,J5 A u)→tw K (lF K h A) (vs.map Hw) ds
 | [],_,x,_,_=>by
  cases x
  exact .nil
 | d::ds,_,x,p,hu=>by
  obtain⟨v,vs,rfl,x1,x2⟩:=ED x
  have q:JK d=true∧AR ds=true:=Jc.mp p
  exact .cons (Oz KX ar d v x1 q.1 (hu _ (fD ..))) (ES KX ar ds vs x2 q.2 fun u m=>hu u (dX _ m))
end
end
theorem BM {ds:List WData} (h:WData.layableAll ds=true):∀d∈ds,d.weight≤1048576:=fun d hd=>
 (PySem.W.layableW_iff.mp (Az.mp h d hd)).2.2
theorem BG:∀(cs:List Codec) (a:Codec.denoteAll cs),(Codec.encAll cs a).length=cs.length
 | [],_=>rfl
 | c::cs,a=>by
  show(Codec.encAll cs a.2).length+1=cs.length+1
  rw [BG cs a.2]
end L2
end
section
section
namespace L2
open PySem PySem.Spec PyProof.Rows
section
variable {X:Cx}
theorem aJ:By X (binaryOp .Mult) (rI IntMulOk fun i j=> .int (i*j)):=QP fun _ _ _ _ _ _ _ hc q=>mul_int q hc
def N1 (_ j:Int):Prop:=0<j∧j.natAbs.log2<9000
theorem cD:By X (binaryOp .FloorDiv) (rI N1 fun i j=> .int (i /j)):=QP fun i j _ _ _ _ _ hc q=>by
 have e:i /j=i.fdiv j:=(Int.fdiv_eq_ediv_of_nonneg i (fH hc.1)).symm
 rw [e] at q
 exact floordiv_int (Int.ne_of_gt hc.1) q (.inl (PyProof.noPylong_of_log2 hc.2))
theorem lr {e:Expr} {t:TT} (h:PW X e t):PT X e t:=fun pins s σ H Q I q=>h _ pins s σ H Q I q
def Qi (ta:TA):TE:=fun σ H Q=>ta σ H fun vs H1=>∃j:Int,vs= [.int j]∧-(2 ^ 62)≤j∧j<2 ^ 62∧∀p,H1 p=none→Q (.ref p) (bT H1 p (.rng 0 j))
theorem yY {a:Expr} {ta:TA} {p pos:Pos} (hg:Gl X "range") (hm:X.mg "range"=none) (ha:PA X [a] ta) (hs:starEach [a] X.env= [(false,eval a X.env)]:=by rfl):PE X (.Call (.Name "range" p) [a] [] pos) (Qi ta):=by
 intro pins s σ H Q I h
 refine Call_ (v8 I hg hm boot_range (C2 (eS (ha pos pins s σ H _ I h) fun us s1 ⟨vs,H1,I1,r1,q1⟩=>?_) hs rfl))
 revert q1
 refine NZ fun j e q1 q2 q=>?_
 subst e
 cases r1 with
 | cons r rr=>
  cases rr
  obtain⟨t,rfl⟩:=r
  refine call_range_1 ?_
  exact bV (.ref s1.heap.objs.size) _ (I1.laid (fun b o e=>i9 _ e) (bq _) (show iF X.prog X.w _ _ _ (.rng 0 j) from⟨_,(oE _ _ (vv _ rfl))⟩)) rfl (q _ (I1.hok.fresh (bq _)))
theorem uB:∀{xs:List V} {us:List Value},xs.length=us.length→(∀(i:Nat) (x:V) (u:Value),xs[i]?=some x→us[i]?=some u→cZ x u)→bO xs us
 | [],[],_,_=> .nil
 | [],_::_,h,_=>by simp at h
 | _::_,[],h,_=>by simp at h
 | x::xs,u::us,h,r=> .cons (r 0 x u rfl rfl) (uB (by simpa using h) fun i y z a b=>r (i+1) y z (by simpa using a) (by simpa using b))
def xO (n:Nat):List V:=(List.range n).map fun i=>V.int (i:Nat)
theorem vA (hc:X.calm=true):rR X (.type "list") (fun xs H Q=>∃(p:Addr) (j:Int),xs= [.ref p]∧H p=some (.rng 0 j)∧j≤1000000∧-1000000≤j∧∀l,H l=none→Q (.ref l) (bT H l (.lst (xO j.toNat)))):=by
 intro pins s σ H xs us Q I r h
 revert h
 refine io ?_
 rintro p j rfl hp h1 h2 q
 refine a4 ?_ (JW r)
 rintro u rfl rx
 cases rx
 obtain⟨t,u,v,e⟩:∃t u v,s.heap.get? p=some {cls:= .type "range",data:= .fields #[.int 0 t,.int j u,.int 1 v]}:=I.hok p _ hp
 refine call_list_range (n:=j.toNat) (I.ok.hd hc) e (small_one ⋯ ⋯ ⋯ ⋯) (by rw [rangeSize_one];split<;>omega) ⋯ fun h' tk acc' c' kp e' hi=>?_
 refine bV (.ref s.heap.objs.size) _ (I.laid (t':=tk) kp (bq _) (show iF X.prog X.w _ h' _ (.lst (xO j.toNat)) from⟨?_,(cK acc'.toList c' ?_ (by simpa using e'))⟩)) rfl (q _ (I.hok.fresh (bq _)))
 ·unfold xO
  rw [aD,ft]
  show j.toNat≤2 ^ 24
  omega
 ·obtain⟨hsz,hit⟩:=hi
  refine uB (by unfold xO;rw [aD,ft,HB,hsz]) fun i x u hx hu=>?_
  unfold xO at hx
  rw [du] at hx
  rw [Array.getElem?_toList] at hu
  obtain⟨tk,rfl⟩:=hit i u hu
  have hi:i<j.toNat:=by
   have:=(Array.getElem?_eq_some_iff.mp hu).1
   omega
  rw [HH hi] at hx
  cases hx
  refine⟨tk,?_⟩
  rw [Int.mul_one,kt]
def O6 (i:Nat) (Fs:Addr→Sp→Prop) (t:TA):TE:=fun σ H Q=>∃f sp,σ[i]?=some (some (.ref f))∧Fs f sp∧t σ H fun vs H1=>sp vs H1 Q E0
theorem pc {i:Nat} {x:Str} {p pos:Pos} {e:Expr} {es:List Expr} {t:TA} (Fs:Addr→Sp→Prop) (hN:X.N[i]?=some x) (hv:Oq X.env.scope x) (hF:∀f sp,Fs f sp→∃k fd ps,j1 X.prog X.w X.K X.mg X.base Bi k f fd ps sp∧eU k X.A∧PySem.W.keepIn X.K (.ref f)=true∧jc X.K fd ps [])
  (ha:PA X (e::es) t) (hd:(x==("__debug__":Str))=false:=by decide) (hcd:(x==("__classdict__":Str))=false:=by decide) (he:starEach (e::es) X.env=(false,eval e X.env)::starEach es X.env:=by rfl) (hpl:(backTo pos (starEach es X.env)).any (·.1)=false:=by rfl):
  PE X (.Call (.Name x p) (e::es) [] pos) (O6 i Fs t):=by
 intro pins s σ H Q I h
 revert h
 refine yw fun f sp es1 hf h=>?_
 refine CZ (fun k fd ps F hr hk hb=>?_) (hF f sp hf)
 refine wV (eS (Mr (i:=i) hN hv hd hcd pins s σ H (fun v H1=>v= .ref f∧H1=H) I (df _ es1 rfl rfl)) fun u s0 ⟨v,H0,I0,rv,ev,eH⟩=>?_)
 subst ev eH
 obtain rfl:u=Value.ref f:=rv
 refine PySem.W.callWith_K (h₀:=X.base) I.ok.mod.kin hk (eS (ha pos pins s0 σ _ _ I0 h) fun us s1 ⟨vs,H1,I1,r,q⟩=>⟨I1.kIn,?_⟩) he hpl
 exact Fh (dvs:= []) (ds:= []) F hr hb .nil Ab I1 r (by rw [vU];exact q)
def Q4 (t u:TE):TE:=fun σ H Q=>t σ H Q∨u σ H Q
theorem wp {e:Expr} {t u:TE} (h1:PE X e t) (h2:PE X e u):PE X e (Q4 t u):=fun pins s σ H Q I h=>h.elim (h1 pins s σ H Q I) (h2 pins s σ H Q I)
theorem xK {K':PySem.W.Frag} {e:Expr} {ta:TE} {f:Str} {pos:Pos} (he:PE X e ta) (hb:attributeBase e f X.env (eval e X.env)=eval e X.env) (hK:X.K=K'):PE X (.Attribute e f pos) (Qa K' ta f):=by
 subst hK
 exact ao he hb
theorem xt {K':PySem.W.Frag} (hK:X.K=K'):Qv X (O0 K'):=by
 subst hK
 exact Jw
theorem MB {K':PySem.W.Frag} (hK:X.K=K'):Qy X (P0 K'):=by
 subst hK
 exact Bt
theorem Bq {K':PySem.W.Frag} {es:List Expr} {k:Nat} {t:N5} {n:Nat} {pos:Pos} (hc:X.calm=true) (h:Pr X es t) (hn:(assignEach es X.env).length=n) (hst:(assignEach es X.env).findIdx? (·.1)=none) (hK:X.K=K'):PG X (.Tuple es k pos) (Pw K' n t):=by
 subst hK
 exact Fe hc h hn hst
def PY (K:PySem.W.Frag):V→V→Hp→VK→Prop:=fun o i H Q=>∃p xs k j v,o= .ref p∧i= .int k∧a5 K H p xs∧k=((j:Nat):Int)∧xs[j]?=some v∧Q v H
theorem LM:Pq X (PY X.K):=by
 intro pins s σ H o i ov iv Q I ro ri h
 revert h
 refine FL ?_
 rintro p xs k j v rfl rfl hq ek hv q
 cases ro
 obtain⟨t,rfl⟩:=ri
 subst ek
 refine lB (fun its r pl hz=>?_) (I.list hq)
 refine a4 (fun w ew rw'=>?_) (r.get hv)
 have hj:=(cg.mp hv).1
 have hn:=BN
 exact PyProof.Rows.getItem_listL pl.isList ⋯ ⋯ (by rw [cV];exact ew) (bV v H I rw' q)
structure GD (P:Program) (w:World) (K:PySem.W.Frag) (a:Addr) (kvs:List (Int×V)):Prop where
 ne:(a==sysModules)=false
 at_:∀h:Heap,K.In h→∃vs,KV (kvs.map fun p=>((Sum.inl p.1:yG),p.2)) vs∧h.DictOf (lY P w) a vs
def DP (kvs:List (Int×V)) (k:Int):Option V:=(kvs.find? fun kv=>decide (kv.1=k)).map (·.2)
theorem FI (k:Int):∀kvs:List (Int×V),Hz (kvs.map fun p=>((Sum.inl p.1:yG),p.2)) (Sum.inl k)=DP kvs k
 | []=>rfl
 | p::r=>by
  have ih:=FI k r
  unfold Hz DP at ih⊢
  rw [e9,C8,C8]
  by_cases e:p.1=k
  ·have e':(Sum.inl p.1:yG)=Sum.inl k:=by rw [e]
   simp only [e,decide_true]
   rfl
  ·have e':¬(Sum.inl p.1:yG)=Sum.inl k:=fun q=>e (Sum.inl.inj q)
   simp only [br e,br e']
   exact ih
def Qb (P:Program) (w:World) (K:PySem.W.Frag) (td ty:TE):TE:=fun σ H Q=>td σ H fun x H1=>ty σ H1 fun y H2=>∃a kvs k v,x= .ref a∧GD P w K a kvs∧y= .int k∧DP kvs k=some v∧Q v H2
theorem l4 {o i:Expr} {pos:Pos} {td ty:TE} (ho:PE X o td) (hi:PE X i ty) (hs:Pp i:=by exact fun _ _=>rfl):PE X (.Subscript o i pos) (Qb X.prog X.w X.K td ty):=by
 intro pins s σ H Q I h
 refine NS PySem.F.slot_dict_getitem.lookup hs (eS (ho pins s σ H _ I h) fun u s1 ⟨x,H1,I1,rx,q1⟩=>eS (hi pins s1 σ H1 _ I1 q1) fun iv s2 ⟨y,H2,I2,ry,a,kvs,k,v,ex,g,ey,l,q2⟩=>?_)
 subst ex ey
 obtain rfl:u=Value.ref a:=rx
 refine a4 (fun vs rel dd=>?_) (g.at_ _ I2.kIn)
 have ry':cZ (kV (Sum.inl k)) iv:=ry
 refine a4 (fun w' hw rw'=>?_) (vX.some_of (v:=v) (o:=valueAt vs (Sum.inl k)) (by have z:=rel.val (Sum.inl k);rw [FI,l] at z;exact z))
 refine⟨?_,wpAny_getItem_of (N8 ry') dd.mapOf hw (bV v H2 (I2.tok _) rw' q2)⟩
 revert dd
 refine d7 fun ob es ep e c _=>?_
 exact⟨ob,e,c.1⟩
def O8 (P:Program) (w:World) (K:PySem.W.Frag) (ty td:TE):TE:=fun σ H Q=>ty σ H fun y H1=>td σ H1 fun x H2=>∃a kvs k,x= .ref a∧GD P w K a kvs∧y= .int k∧Q (.bl (DP kvs k).isSome) H2
theorem Ml {o i:Expr} {td ty:TE} (hi:PE X i ty) (ho:PE X o td):PC X .In i o (O8 X.prog X.w X.K ty td):=by
 intro pins s σ H Q I h
 refine eS (hi pins s σ H _ I h) fun iv s1 ⟨y,H1,I1,ry,q1⟩=>eS (ho pins s1 σ H1 _ I1 q1) fun u s2 ⟨x,H2,I2,rx,a,kvs,k,ex,g,ey,q2⟩=>?_
 subst ex ey
 obtain rfl:u=Value.ref a:=rx
 refine a4 (fun vs rel dd=>?_) (g.at_ _ I2.kIn)
 have ry':cZ (kV (Sum.inl k)) iv:=ry
 refine wpAny_in_of (N8 ry') g.ne dd.mapOf ?_
 have z:=(rel.val (Sum.inl k)).isSome_eq
 rw [FI] at z
 rw [←z]
 exact bV (.bl (DP kvs k).isSome) H2 (I2.tok _) rfl q2
theorem Iy {o i:Expr} {pos:Pos} {td ty:TE} (hi:PE X i ty) (ho:PE X o td) (hm:behindInMarks .In o=false:=by rfl):PE X (.Compare i [.In] [o] pos) (O8 X.prog X.w X.K ty td):=OS (Ml hi ho) hm
theorem Mt {o i:Expr} {pos:Pos} {td ty:TE} (hi:PE X i ty) (ho:PE X o td) (hm:behindInMarks .In o=false:=by rfl):PT X (.Compare i [.In] [o] pos) (tB (O8 X.prog X.w X.K ty td)):=OX (Ml hi ho) hm
end
theorem OM {K:PySem.W.Frag} {a b:Addr} {xs ys:List V} {g:TG} {tt:TT} {te:TE} {vs:List Nat} {σ:St} {H1:Hp} {D:Addr} {Qd:Hp→Prop} (Pv:Nat→Hp→Prop) (h0:Pv 0 (bT H1 D (.lst []))) (he:xs.length=ys.length) (hl:∀i H,i≤xs.length→Pv i H→a5 K H a xs∧a5 K H b ys)
  (hs:∀i x y H T,xs[i]?=some x→ys[i]?=some y→Pv i H→H T=none→g (.ref T) (iZ σ vs) (bT H T (.tup [x,y])) fun σ2 H2=>iZ σ2 vs=iZ σ vs∧tt σ2 H2 fun b H3=>
   if b=true then te σ2 H3 fun y H4=>∃acc,H4 D=some (.lst acc)∧acc.length<sizeLine∧Pv (i+1) (bT H4 D (.lst (acc++ [y]))) else Pv (i+1) H3) (hd:∀H,Pv xs.length H→Qd H):
  ∃W:Nat→Nat→Hp→Prop,(∃m,W 0 m (bT H1 D (.lst [])))∧∀i m H,W i m H→
   ((Po K a b).stop i H∧Qd H)∨((Po K a b).go i H∧∃Nx:Hp→Prop,(∀H',Nx H'→∃m',m'<m∧W (i+1) m' H')∧∀x H',(Po K a b).yld i H x H'→g x (iZ σ vs) H' fun σ2 H2=>iZ σ2 vs=iZ σ vs∧tt σ2 H2 fun b H3=>
     if b=true then te σ2 H3 fun y H4=>∃acc,H4 D=some (.lst acc)∧acc.length<sizeLine∧Nx (bT H4 D (.lst (acc++ [y]))) else Nx H3):=by
 refine⟨fun i m H=>m=xs.length - i∧i≤xs.length∧Pv i H,(df xs.length (by simp) (bo _) h0),?_⟩
 rintro i m H
 refine gk ?_
 rintro rfl hi p
 obtain⟨qa,qb⟩:=hl i H hi p
 by_cases hlt:i<xs.length
 ·have hlt2:i<ys.length:=by omega
  refine .inr (dt ⟨xs,(bY ys (xs[i]) (ys[i]) qa qb (by simp [hlt]) (by simp [hlt2]))⟩ (Pv (i+1)) (fun H' p'=>⟨xs.length - (i+1),(b8 ⋯ rfl hlt p')⟩) fun v H' hy=>?_)
  revert hy
  refine DR ?_
  rintro T x y rfl hT rfl h1 h2
  exact hs i x y H T (h1 xs qa) (h2 ys qb) p hT
 ·have e:i=xs.length:=by omega
  subst e
  exact .inl ⟨(bV xs ys qa qb (.inl (bq _))),hd H p⟩
end L2
end
end
section
namespace L2
open PySem PySem.Spec PySem.Calls PyProof.Rows
section
variable {P:Program} {w:World} {A:Around} {E:Value→Shared→Prop} {s:Shared} {H:Hp} {K:PySem.W.Frag}
theorem LT {Q:Value→Shared→Prop} {f c' cc a r C dx:Addr} {name qual x y g:Str} {pm ctv:Value} {cl:List (Str×Addr)} {p1 p2 p3 p4 p5:Pos} {xs:List V} {i:Nat} {t0:Tok} {k:Int} {fs:List (Str×V)} {scope:Scope}
  (KX:K.In s.heap) (hok:vW P w H s.heap) (lim:s.heap.NoLimit) (hroom:A.depth<recursionLimit)
  (ho:s.heap.get? f=some (PySem.W.kla_obj name qual {posonlyargs:= [],args:= [{arg:=y,annotation:=none,pos:=p1}],vararg:=none,kwonlyargs:= [],kw_defaults:= [],kwarg:=none,defaults:= []} (.Attribute (.Subscript (.Name x p2) (.Name y p3) p4) g p5) scope cl pm c' ctv))
  (hb:bindArgs (PySem.W.kla_fn name qual {posonlyargs:= [],args:= [{arg:=y,annotation:=none,pos:=p1}],vararg:=none,kwonlyargs:= [],kw_defaults:= [],kwarg:=none,defaults:= []} (.Attribute (.Subscript (.Name x p2) (.Name y p3) p4) g p5) scope cl pm (.ref c') ctv) ⟨[.int i t0],[]⟩=pure [(y,.int i t0)])
  (hs1:scope.isCoroutine=false) (hs2:scope.isGenerator=false) (hs3:scope.kind= .function) (hs4:∀q∈scope.names,q.2≠ .cell) (hs5:scope.names.lookup y=some .local) (hs6:scope.names.lookup x=some .free)
  (hx1:(x==("__debug__":Str))=false) (hx2:(x==("__classdict__":Str))=false) (hy1:(y==("__debug__":Str))=false)
  (hcd:s.heap.CodeRec (.ref c') qual) (hcl:cl.lookup x=some cc) (hcell:s.heap.IsCell cc (some (.ref a)))
  (ha:H a=some (.lst xs)) (hi:xs[i]?=some (.ref r)) (hr:H r=some (.ins C dx fs)) (c:HR K C) (n:ku K C g) (l:fs.lookup g=some (.int k))
  (h:∀h' tk t,(∀b o,s.heap.get? b=some o→h'.get? b=some o)→Q (.int k t) {s with heap:=h',toks:=tk}):
  wpAny (model P w) A (call (.ref f) [.int i t0]) Q E s:=by
 refine wpAny_call (PySem.W.kla_callFunE hroom ho rfl hs1 hs2 rfl hcd ?_)
 rw [hb]
 refine dR (wpAny_newFunctionEnv hs4 (fun q hq=>?_) (fun h₁ hns hsb=>⟨lim.fresh _ hsb,?_⟩) hs3)
 ·rw [gQ.mp hq];exact hs5
 have hk₁:∀b o,s.heap.get? b=some o→h₁.get? b=some o:=fun b o e=>hsb.extBut b o (fm (fo e)) (i9 _ e)
 show codeAny _ _ (.expr _ (PySem.W.envX qual scope s.heap.objs.size f (.ref c') cl)) _ _
 refine PySem.W.kla_codeExpr ?_
 have hok1:vW P w H h₁:=hok.kept hk₁
 have KX1:K.In h₁:=KX.keeps hk₁
 obtain⟨hlen,its,nn,rv,hit⟩:=hok1 a _ ha
 obtain⟨u,hu,ru⟩:=rv.get hi
 obtain rfl:u=Value.ref r:=ru
 refine Jj rfl (Subscript_ ?_)
 refine wpAny_Name (wpAny_loadName_free hs3 hs6 hcl (hcell.keeps hk₁) ?_ hx2) hx1
 refine wpAny_Name (wpAny_loadName_local hs3 hs5 hns (show List.lookup y [(y,Value.int (i:Int) t0)]=_ from by rw [List.lookup_cons_self]) ?_) hy1
 have pl:h₁.IsList a its.toArray:=(bJ _ hit (kQ rfl nn rfl))
 refine item_listR (x:= .ref r) pl ⋯ (by have q1:=(cg.mp hi).1;have q2:=BN;omega) (by simpa using hu) ?_ rfl
 refine MU (fun mA O rr _ _ _=>?_) (Bn hok1 hr)
 refine a4 (fun u2 hu2 ru2=>?_) (vX.some_of (v:= .int k) (o:=mA g) (by rw [←l];exact rr g))
 obtain⟨t2,rfl⟩:=ru2
 exact Jr KX1 O (c.get g) c.hd n hu2 (Eb (v:= .int k) ⟨t2,rfl⟩) (h _ _ _ hk₁)
theorem Ds {r:Addr} {a b c:Int} {t u v:Tok} {n:Nat} {Q:List Value→Shared→Prop} (hh:A.handled=none) (hr:IsRange s.heap r a b c t u v) (hsmall:Builtin.Range.small a b c=true)
  (hn:Builtin.Range.rangeSize a b c=n) (hlen:n≤2 ^ 24)
  (h:∀h' tk acc',(∀b o,s.heap.get? b=some o→h'.get? b=some o)→s.heap.objs.size≤h'.objs.size→ItemsOf (fun i v=>∃t,v= .int (a+i*c) t) acc' n→Q acc'.toList {s with heap:=h',toks:=tk}):
  wpAny (model P w) A (collect (.ref r)) Q E s:=by
 have key:∀R:Result→Shared→Prop,(∀h' tk acc' c',(∀b o,s.heap.get? b=some o→h'.get? b=some o)→h'.get? s.heap.objs.size=some {cls:= .type "list",dict:=none,data:= .seq acc' c',slots:=#[]}→ItemsOf (fun i v=>∃t,v= .int (a+i*c) t) acc' n→R (.ok (.ret (.ref s.heap.objs.size))) {s with heap:=h',toks:=tk})→
   codeAny (model P w) A (.builtin "proto.collect" ⟨[.ref r],[]⟩) R s:=fun R hR=>by
  refine codeAny_builtin PySem.F.entry_proto_collect ?_
  rw [Around.under_plainId PySem.F.plain_proto_collect _]
  show wpAny _ A.in1 (newList []>>=fun l=>again (.builtin "list.__iadd__" ⟨[l,.ref r],[]⟩)) _ _ s
  refine bK (wpAny_newObj_type ?_)
  refine dR ⟨plainId_quiet PySem.F.plain_list_iadd _,codeAny_builtin PySem.F.entry_list_iadd ?_⟩
  rw [Around.under_plainId PySem.F.plain_list_iadd _]
  show wpAny _ A.in1 (Builtin.List.listExtendWith (.ref s.heap.objs.size) (.ref r) (.ref s.heap.objs.size)) _ _ _
  have e1:(s.heap.push {cls:= .type "list",data:= .seq ([]:List Value).toArray}).get? s.heap.objs.size=some {cls:= .type "list",data:= .seq #[] 0}:=vv _ rfl
  have e2:IsRange (s.heap.push {cls:= .type "list",data:= .seq ([]:List Value).toArray}) r a b c t u v:=i9 _ hr
  refine wpAny_extend_range (R:=R) (A:=A) (s:={s with heap:=s.heap.push {cls:= .type "list",data:= .seq ([]:List Value).toArray}}) hh e2 hsmall hn hlen s.heap.objs.size _ 0 e1 fun h' tk acc' c' hk hS' hacc=>?_
  exact hR h' tk acc' c' (fun b o e=>hk b o (fm (fo e)) (i9 _ e)) hS' hacc
 unfold collect
 refine bK (wpAny_runValue (key _ fun h' tk acc' c' hk hS' hacc=>?_))
 show wpAny _ A (load s.heap.objs.size>>=_) _ _ _
 refine bK (wpAny_load hS' ?_)
 exact dR (h h' tk acc' hk (Nat.le_of_lt (fo hS')) hacc)
theorem AY {h₀:Heap} {L:Addr} {m:Str→Option Value} {news:List (Addr×Obj)} {r:Addr} {hi:Int} {t u v:Tok} {n:Nat} {kz:List Int} {f:Value} {kw:List (Str×Value)} {Q:Value→Shared→Prop} (F:Fr h₀ L s.heap m) (N:News h₀ L s.heap news)
  (hh:A.handled=none) (hr:IsRange s.heap r 0 hi 1 t u v) (hsmall:Builtin.Range.small 0 hi 1=true) (hn:Builtin.Range.rangeSize 0 hi 1=n) (hlen:n≤2 ^ 24) (hkz:kz.length=n)
  (ha1:argsOk "sorted" ⟨[.ref r],kw⟩) (ha2:∀x,argsOk "list.sort" ⟨[.ref x],kw⟩) (ht:∀x,Builtin.«list.sort» ⟨[.ref x],kw⟩=ksk_tree x f false)
  (turn:∀(i:Nat) (t:Tok) (k:Int),kz[i]?=some k→∀(h:Heap) (tk:Nat) (own:List (Addr×Obj)),Fr h₀ L h m→News h₀ L h (news++own)→
   wpAny (model P w) A.in1.in1 (call f [.int i t]) (KskEnd h₀ L m (news++own) k {s with heap:=h,toks:=tk}) (fun _ _=>False) {s with heap:=h,toks:=tk})
  (h:∀D h' tk out c,Fr h₀ L h' m→News h₀ L h' ((D,seqObj "list" out c)::news)→s.heap.objs.size≤D→(∃vs:List Value,vs.length=n∧(∀(i:Nat) v,vs[i]?=some v→∃t,v= .int (i:Int) t)∧KskOut false kz vs out.toList)→Q (.ref D) {s with heap:=h',toks:=tk}):
  wpAny (model P w) A (call (.builtin "sorted") [.ref r] kw) Q E s:=by
 refine call_function_entry_kw kind_sorted plain_sorted entry_sorted ha1 ?_
 unfold Builtin.«sorted»
 refine bK (m:=checkCount "sorted" 1 1 _) (dR ?_)
 refine bK (Ds (A:=A.in1) hh hr hsmall hn hlen fun h1 tk1 acc hk hsz hacc=>?_)
 have hl:acc.toList.length=n:=by rw [HB];exact hacc.1
 have hZ:acc.toList.length≤sizeLine:=by rw [hl,sizeLine_eq];omega
 have hZ2:=hZ
 rw [sizeLine_eq] at hZ2
 refine bK (wpAny_newList ?_ (by rw [sizeLine_eq];omega))
 have hoL:(h1.push (seqObj "list" acc.toList.toArray 0)).get? h1.objs.size=some (seqObj "list" acc.toList.toArray 0):=vv _ rfl
 have keep:∀b o,s.heap.get? b=some o→(h1.push (seqObj "list" acc.toList.toArray 0)).get? b=some o:=fun b o q=>i9 _ (hk b o q)
 have F1:=F.kept hk
 have hL:L<h1.objs.size:=F1.ns.lt
 refine bK (wpAny_holding (wpAny_call_entry_kw slot_list_sort ⟨_,hoL,rfl⟩ entry_list_sort ?body (ha2 _)))
 case body=>
  show wpAny (model P w) A.in1.in1 (Builtin.«list.sort» ⟨[.ref h1.objs.size],kw⟩) _ _ _
  rw [ht h1.objs.size]
  refine ksk_sortAny (kz:=kz) (vs:=acc.toList) (s:={s with heap:=h1.push (seqObj "list" acc.toList.toArray 0),toks:=tk1})
   (F.kept keep) (N.grown keep) hoL (Nat.ne_of_gt hL) (Heap.get?_none_of_le (fS F.above (Nat.le_of_lt hL)))
   (fun p hp=>fm (gR (fo (N p hp).1) hsz)) (by rw [hl];exact hkz) hZ (fun i v k hv hkk h' tk own F' N'=>?_) fun h' tk out c F' N' k'=>⟨_,rfl,?_⟩
  ·obtain⟨t,e⟩:=hacc.2 i v (by simpa using hv)
   have e':v= .int (i:Int) t:=by rw [e];congr 1;omega
   rw [e']
   exact turn i t k hkk h' tk own F' N'
  ·refine dR ⟨_,rfl,h _ h' tk out c F' N' hsz (df acc.toList hl (fun i v hv=>?_) k')⟩
   obtain⟨t,e⟩:=hacc.2 i v (by simpa using hv)
   exact⟨t,by rw [e];congr 1;omega⟩
end
end L2
end
section
namespace L2
open PySem PySem.Spec PySem.Calls PyProof.Rows
section
variable {X:Cx} {pins:List (Addr×Obj)} {σ:St} {H:Hp} {s:Shared}
def Qq (q:Str) (ln cl:Int) (Pl:Addr) (H:Hp):Prop:=H Pl=some (.tbl #[])∨∃c':Addr,H Pl=some (.tbl #[rawInt ln,rawInt cl,.ref c'])∧H c'=some (.ext fun h=>h.CodeRec (.ref c') q)
def Dp (K:PySem.W.Frag) (mg:Str→Option Value) (Pl:Addr) (H:Hp):Prop:=(∀h:Heap,K.In h→h.BuiltinsAt mg Pl)∨∃bm:Addr,mg "__builtins__"=some (.ref bm)∧bm≠builtinsNs∧bm≠mainGlobals∧bm≠Pl∧∃o:Obj,o.cls= .type "module"∧o.dict=some builtinsNs∧o.data= .plain∧H bm=some (.frz o (.ext fun _=>True))
theorem Dp.get {K:PySem.W.Frag} {mg:Str→Option Value} {Pl:Addr} {H:Hp} {P:Program} {w:World} {h:Heap} (x:Dp K mg Pl H) (k:K.In h) (ok:vW P w H h):h.BuiltinsAt mg Pl:=by
 rcases x with x | ⟨bm,e1,e2,e3,e4,o,f2,f3,f4,e5⟩
 ·exact x h k
 ·obtain⟨f1,_⟩:=ok bm _ e5
  exact cK bm o e1 (b8 e2 e3 e4 (b8 f1 f2 f3 f4))
theorem Dp.keep {K:PySem.W.Frag} {mg:Str→Option Value} {Pl:Addr} {H H':Hp} (x:Dp K mg Pl H) (k:∀b o u,H b=some (.frz o u)→H' b=some (.frz o u)):Dp K mg Pl H':=by
 rcases x with x | ⟨bm,e1,e2,e3,e4,o,f2,f3,f4,e5⟩
 ·exact .inl x
 ·exact .inr ⟨bm,(b8 e1 e2 e3 (kQ e4 o (b8 f2 f3 f4 (k _ _ _ e5))))⟩
theorem mv {q:Str} {c':Addr} {h1 h2:Heap} (x:h1.CodeRec (.ref c') q) (k:∀o,h1.get? c'=some o→h2.get? c'=some o):h2.CodeRec (.ref c') q:=by
 refine oF (fun c o vs t e ho hd hv=>?_) x
 cases e
 exact⟨c',(bY o vs t rfl (k o ho) hd hv)⟩
theorem OL {E:Value→Shared→Prop} {c Pl:Addr} {q:Str} {params:Arguments} {body:Expr} {scope:Scope} {pos:Pos} {clos:List (Str×Addr)} {Q:Value→Shared→Prop} (I:be X pins σ H s)
  (hcode:X.env.code= .ref c) (hC:∀h,X.K.In h→PySem.W.CodeHd h c Pl) (hbm:s.heap.BuiltinsAt X.mg Pl) (hq:X.env.qual++"<lambda>"=q) (hdef:defaultsOf params X.env=([],[])) (hcl:closureFor scope X.env=pure clos)
  (tb:Qq q pos.line pos.col Pl H)
  (h:∀(f c':Addr) (ctv:Value) (H':Hp) (s':Shared),be X pins σ H' s'→s'.heap.get? f=some (PySem.W.kla_obj "<lambda>" q params body scope clos ((X.mg "__name__").getD .none) c' ctv)→s'.heap.CodeRec (.ref c') q→
   (∀b o,H b=some o→b≠Pl→H' b=some o)→Qq q pos.line pos.col Pl H'→(∀b o,s.heap.get? b=some o→b≠Pl→s'.heap.get? b=some o)→Q (.ref f) s'):
  wpAny (model X.prog X.w) X.A (eval (.Lambda params body scope pos) X.env) Q E s:=by
 subst hq
 refine PySem.W.kla_eval hdef ?_
 have hg:s.heap.Ns mainGlobals X.mg:=I.mod.glob.keeps I.bk
 rcases tb with tb | ⟨c',tb,tc⟩
 ·have hP:s.heap.get? Pl=some (PySem.W.tabObj #[]):=I.hok Pl _ tb
  have hgP:mainGlobals≠Pl:=fun z=>by
   refine tq (fun o es ep ho _=>?_) I.mod.glob
   have:=(I.bs _ _ ho).2
   rw [z,tb] at this
   cases this
  refine PySem.W.kla_makeFunction (mg:=X.mg) hcl I.ok.glob hg hcode (hC _ I.kIn) hP trivial rfl hgP hbm fun c' ctv h' tk hx hge hlt hrec htb=>?_
  have nc:H c'=none:=I.hok.fresh hge
  have hPc:Pl≠c':=fun z=>by rw [z,nc] at tb;cases tb
  have hx2:∀b o,b≠Pl→s.heap.get? b=some o→(h'.push (PySem.W.kla_obj "<lambda>" (X.env.qual++"<lambda>") params body scope clos ((X.mg "__name__").getD .none) c' ctv)).get? b=some o:=fun b o hb e=>i9 _ (hx b o hb e)
  have e1:(#[]:Array Value)++#[rawInt pos.line,rawInt pos.col,.ref c']=#[rawInt pos.line,rawInt pos.col,.ref c']:=rfl
  rw [e1] at htb
  have eP:bT (bT H Pl (.tbl #[rawInt pos.line,rawInt pos.col,.ref c'])) c' (.ext fun h=>h.CodeRec (.ref c') (X.env.qual++"<lambda>")) Pl=some (.tbl #[rawInt pos.line,rawInt pos.col,.ref c']):=by rw [ak hPc,af]
  have old:∀b o,H b=some o→b≠Pl→bT (bT H Pl (.tbl #[rawInt pos.line,rawInt pos.col,.ref c'])) c' (.ext fun h=>h.CodeRec (.ref c') (X.env.qual++"<lambda>")) b=some o:=fun b o e hb=>by
   rw [ak (aw e nc),ak hb];exact e
  have nP:∀b o,H b=some o→o≠ .tbl #[]→b≠Pl:=fun b o e hn z=>by rw [z,tb] at e;exact hn (bG e).symm
  have nN:∀b,H b=none→b≠Pl:=fun b n z=>by rw [z,tb] at n;cases n
  refine h h'.objs.size c' ctv _ _ (I.un (h':=h'.push (PySem.W.kla_obj "<lambda>" (X.env.qual++"<lambda>") params body scope clos ((X.mg "__name__").getD .none) c' ctv)) (t':=tk) ⟨fun b o e n _ _=>hx2 b o (nN b n) e,fun b o e n _ _=>⟨o.slots,hx2 b o (nN b n) e⟩,fun b o e n _=>?_,fun b o e _=>?_,fun b xs e=>old _ _ e (nP _ _ e (by intro z;cases z)),fun b o u e=>old _ _ e (nP _ _ e (by intro z;cases z)),fun b ps e=>?_⟩ (fun b u e=>?_))
   (vv _ rfl) (mv hrec fun o e=>i9 _ e) old (.inr ⟨c',eP,af⟩) fun b o e hb=>hx2 b o hb e
  ·rw [ak (fm (gR (fo e) hge)),ak (nN b n)];exact n
  ·by_cases hb:b=Pl
   ·subst hb;exact⟨_,i9 _ htb⟩
   ·exact⟨o,hx2 b o hb e⟩
  ·by_cases hb:b=Pl
   ·subst hb
    rw [tb] at e
    cases e
    exact⟨#[rawInt pos.line,rawInt pos.col,.ref c'],eP⟩
   ·exact⟨#[],by rw [old _ _ e hb];simp⟩
  ·by_cases hb:b=c'
   ·subst hb
    rw [af] at e
    cases e
    exact⟨mv hrec fun o e=>i9 _ e,let ⟨_,o,_,_,e0,ho,_⟩:=hrec;⟨o,by cases e0;exact i9 _ ho⟩,fun h1 h2 a k=>mv a k⟩
   ·rw [ak hb] at e
    by_cases hb2:b=Pl
    ·subst hb2
     rw [af] at e
     cases e
     exact i9 _ htb
    ·rw [ak hb2] at e
     refine(I.hok b u e).stay (fun d v hd r=>hx2 d v ?_ r) (fun d r=>old _ _ r (nP _ _ r (by intro z;cases z))) fun d xs r=>old _ _ r (nP _ _ r (by intro z;cases z))
     rcases hd with rfl | hd
     ·exact hb2
     ·exact nP _ _ hd (by intro z;cases z)
 ·have hP:s.heap.get? Pl=some (PySem.W.tabObj #[rawInt pos.line,rawInt pos.col,.ref c']):=I.hok Pl _ tb
  have hrec:s.heap.CodeRec (.ref c') (X.env.qual++"<lambda>"):=(I.hok c' _ tc).1
  have hf:codeAmong pos (#[rawInt pos.line,rawInt pos.col,.ref c']:Array Value).toList=some (.ref c'):=by
   show(if ((pos.line:Int)==pos.line && (pos.col:Int)==pos.col)=true then some (Value.ref c') else _)=_
   rw [if_pos (by simp)]
  refine PySem.W.kla_makeFunctionHit (mg:=X.mg) hcl I.ok.glob hg hcode (hC _ I.kIn) hP trivial hf hbm fun ctv h' tk hk hsz=>?_
  exact h h'.objs.size c' ctv H _ (I.kept (h':=h'.push _) (t':=tk) fun b u e=>i9 _ (hk b u e)) (vv _ rfl) (mv hrec fun o e=>i9 _ (hk _ _ e)) (fun b o e _=>e) (.inr ⟨c',tb,tc⟩) fun b o e _=>i9 _ (hk b o e)
end
end L2
end
section
namespace L2
open PySem PySem.Spec PySem.Calls PyProof.Rows
section
variable {X:Cx} {pins:List (Addr×Obj)} {σ:St} {H:Hp} {s:Shared}
def EN (h:Heap) (L:Addr):List (Addr×Obj):=(List.range h.objs.size).filterMap fun a=>if a=L then none else(h.get? a).map fun o=>(a,o)
theorem qr {h:Heap} {L a:Addr} {o:Obj}:(a,o)∈EN h L↔h.get? a=some o∧a≠L:=by
 unfold EN
 rw [List.mem_filterMap]
 constructor
 ·refine a4 fun b hb e=>?_
  by_cases q:b=L
  ·rw [if_pos q] at e;cases e
  ·rw [if_neg q] at e
   refine a4 (fun o' e1 e2=>?_) (mW.mp e)
   cases e2
   exact⟨e1,q⟩
 ·rintro⟨e,q⟩
  exact⟨a,List.mem_range.mpr (fo e),by rw [if_neg q,e];rfl⟩
theorem Ec (a:Addr):({}:Heap).get? a=none:=Heap.get?_none_of_le (bo _)
theorem Rt {h:Heap} {L:Addr} {m:Str→Option Value} (hn:h.Ns L m):Fr {} L h m:=⟨hn,fun b o e=>(nomatch (Ec b).symm.trans e),bo _⟩
theorem PX (h:Heap) (L:Addr):News {} L h (EN h L):=fun⟨a,o⟩ hp=>⟨(qr.mp hp).1,(qr.mp hp).2,Ec _⟩
theorem JF {h:Heap} {a:Addr} {m m':Str→Option Value} (x:h.Ns a m) (y:h.Ns a m'):m=m':=by
 revert x
 refine CZ fun o es ep e1 e2 _ e3=>?_
 revert y
 refine CZ fun o' es' ep' f1 f2 _ f3=>?_
 rw [e1] at f1
 cases f1
 rw [e2] at f2
 cases f2
 funext n
 rw [←e3,f3]
theorem be.moved {h':Heap} {tk:Nat} {m:Str→Option Value} (I:be X pins σ H s) (hn:s.heap.Ns X.env.locals m) (hn':h'.Ns X.env.locals m) (k:∀b o,b≠X.env.locals→s.heap.get? b=some o→h'.get? b=some o):
  be X pins σ H {s with heap:=h',toks:=tk}:=by
 have nL:∀b u,H b=some u→b≠X.env.locals:=fun b u e z=>by rw [z,I.free] at e;cases e
 refine I.step (g':=s.gens) (d':=s.drawn) (ch:= []) (fun _ z=>nomatch z) (fun b o hb _ _ e _=>k b o hb e) (fun b o hb _ _ e _=>⟨o.slots,k b o hb e⟩) (fun _ _ _ _ n=>n) (fun b o _ e=>?_) (fun _ _ e=>e) (fun _ _ _ e=>e) (fun b ps e=>⟨#[],by rw [e];simp⟩) (fun m' hm=>by rw [JF hm hn];exact hn') (fun b u e=>?_) I.bare
 ·by_cases hb:b=X.env.locals
  ·subst hb
   revert hn'
   refine tq fun o' _ _ ho' _=>?_
   exact⟨o',ho'⟩
  ·exact⟨o,k b o hb e⟩
 ·refine(I.hok b u e).stay (fun c v hc q=>k c v ?_ q) (fun _ q=>q) fun _ _ q=>q
  rcases hc with z | z
  ·rw [z];exact nL b u e
  ·exact nL c _ z
theorem be.movedLaid {h':Heap} {tk:Nat} {m:Str→Option Value} {D:Addr} {o:HO} (I:be X pins σ H s) (hn:s.heap.Ns X.env.locals m) (hn':h'.Ns X.env.locals m) (k:∀b o,b≠X.env.locals→s.heap.get? b=some o→h'.get? b=some o)
  (hD:s.heap.objs.size≤D) (new:iF X.prog X.w (bT H D o) h' D o):be X pins σ (bT H D o) {s with heap:=h',toks:=tk}:=by
 have nD:H D=none:=I.hok.fresh hD
 have nL:∀b u,H b=some u→b≠X.env.locals:=fun b u e z=>by rw [z,I.free] at e;cases e
 have old:∀b u,H b=some u→bT H D o b=some u:=fun b u e=>by rw [ak (aw e nD)];exact e
 refine I.step (g':=s.gens) (d':=s.drawn) (ch:= []) (fun _ z=>nomatch z) (fun b o hb _ _ e _=>k b o hb e) (fun b o hb _ _ e _=>⟨o.slots,k b o hb e⟩) (fun b o _ e n=>?_) (fun b o _ e=>?_) (fun _ _ e=>old _ _ e) (fun _ _ _ e=>old _ _ e) (fun b ps e=>⟨#[],by rw [old _ _ e];simp⟩) (fun m' hm=>by rw [JF hm hn];exact hn') (fun b u e=>?_) I.bare
 ·rw [ak (fm (gR (fo e) hD))];exact n
 ·by_cases hb:b=X.env.locals
  ·subst hb
   revert hn'
   refine tq fun o' _ _ ho' _=>?_
   exact⟨o',ho'⟩
  ·exact⟨o,k b o hb e⟩
 ·by_cases hb:b=D
  ·subst hb
   rw [af] at e
   cases e
   exact new
  ·rw [ak hb] at e
   refine(I.hok b u e).stay (fun c v hc q=>k c v ?_ q) (fun _ q=>old _ _ q) fun _ _ q=>old _ _ q
   rcases hc with z | z
   ·rw [z];exact nL b u e
   ·exact nL c _ z
theorem Mi {n:Nat} {kz:List Int} {vs out:List Value} (hk:kz.length=n) (hv:vs.length=n) (hi:∀(i:Nat) v,vs[i]?=some v→∃t,v= .int (i:Int) t) (ko:KskOut false kz vs out):
  ∃js:List Nat,bO (js.map fun j:Nat=>V.int (j:Int)) out∧js.Perm (List.range n)∧js.Pairwise fun i j=>kz.getD i 0≤kz.getD j 0:=by
 revert ko
 refine lB fun ps hp ho hs=>?_
 have key:∀p∈kz.zip vs,∃(i:Nat) (t:Tok),p.2= .int (i:Int) t∧kz.getD i 0=p.1:=fun p hp=>by
  obtain⟨i,hi1⟩:=List.getElem?_of_mem hp
  rw [List.getElem?_zip_eq_some] at hi1
  obtain⟨t,e⟩:=hi i _ hi1.2
  exact cK i t e (by rw [e8,hi1.1];rfl)
 refine df (ps.map fun p=>(numOf p.2).toNat) ?_ ?_ ?_
 ·rw [ho]
  refine uB (by simp) fun i x u h1 h2=>?_
  rw [du,du] at h1
  rw [du] at h2
  refine a4 (fun p e1 e2=>?_) (mW.mp h2)
  rw [e1] at h1
  refine rB (fun j t e3 _=>?_) (key p (hp.mem_iff.mp (eR e1)))
  have h1':x=V.int (((numOf p.2).toNat:Nat):Int):=(bG h1).symm
  rw [h1',←e2,e3]
  exact⟨t,rfl⟩
 ·refine(hp.map _).trans (List.Perm.of_eq ?_)
  refine List.ext_getElem? fun i=>?_
  rw [du]
  rcases sO i n with q | q
  ·have e1:vs[i]?=some vs[i]:=bH ⋯
   have e2:kz[i]?=some kz[i]:=bH ⋯
   obtain⟨t,e3⟩:=hi i _ e1
   have e4:(kz.zip vs)[i]?=some (kz[i],vs[i]):=List.getElem?_zip_eq_some.mpr ⟨e2,e1⟩
   rw [e4,HH q]
   show some (numOf vs[i]).toNat=some i
   rw [e3]
   rfl
  ·rw [uK (by rw [List.length_zip];omega),uK (by rw [ft];exact q)]
   rfl
 ·rw [List.pairwise_map]
  refine hs.imp_of_mem fun {p q} hp' hq' hr=>?_
  have hr':p.1≤q.1:=hr
  refine rB (fun i t e1 e2=>?_) (key p (hp.mem_iff.mp hp'))
  refine rB (fun j u f1 f2=>?_) (key q (hp.mem_iff.mp hq'))
  rw [e1,f1]
  show kz.getD i 0≤kz.getD j 0
  rw [e2,f2]
  exact hr'
def MH (X:Cx) (ta:TA) (i:Nat) (g q:Str) (ln cl:Int):TE:=fun σ H Q=>ta σ H fun vs H1=>∃(rg a Pl c:Addr) (n:Nat) (xs:List V) (kz:List Int),vs= [.ref rg]∧H1 rg=some (.rng 0 n)∧n≤1000000∧σ[i]?=some (some (.ref a))∧H1 a=some (.lst xs)∧kz.length=n∧
 (∀(j:Nat) k,kz[j]?=some k→∃r C dx fs,xs[j]?=some (.ref r)∧H1 r=some (.ins C dx fs)∧HR X.K C∧ku X.K C g∧fs.lookup g=some (.int k))∧
 X.env.code= .ref c∧(∀h,X.K.In h→PySem.W.CodeHd h c Pl)∧Dp X.K X.mg Pl H1∧Qq q ln cl Pl H1∧
 ∀(H':Hp) (D:Addr) (js:List Nat),(∀b o,H1 b=some o→b≠Pl→H' b=some o)→Qq q ln cl Pl H'→H' D=none→js.Perm (List.range n)→js.Pairwise (fun u v=>kz.getD u 0≤kz.getD v 0)→Q (.ref D) (bT H' D (.lst (js.map fun j:Nat=>V.int (j:Int))))
theorem IA {e:Expr} {ta:TA} {i:Nat} {x y g q:Str} {p pos lp p1 p2 p3 p4 p5 kp:Pos} {scope:Scope} {clos:List (Str×Addr)} {k:Nat} (hr:eU k X.A) (hg:Gl X "sorted") (hm:X.mg "sorted"=none) (ha:PA X [e] ta) (hN:X.N[i]?=some x)
  (hcx:X.env.scope.names.lookup x=some .cell) (hq:X.env.qual++"<lambda>"=q) (hcl:closureFor scope X.env=pure clos) (hlx:clos.lookup x=X.env.cells.lookup x)
  (hb:∀(pm ctv v:Value) (c':Addr),bindArgs (PySem.W.kla_fn "<lambda>" q {posonlyargs:= [],args:= [{arg:=y,annotation:=none,pos:=p1}],vararg:=none,kwonlyargs:= [],kw_defaults:= [],kwarg:=none,defaults:= []} (.Attribute (.Subscript (.Name x p2) (.Name y p3) p4) g p5) scope clos pm (.ref c') ctv) ⟨[v],[]⟩=pure [(y,v)])
  (hs1:scope.isCoroutine=false) (hs2:scope.isGenerator=false) (hs3:scope.kind= .function) (hs4:∀z∈scope.names,z.2≠ .cell) (hs5:scope.names.lookup y=some .local) (hs6:scope.names.lookup x=some .free)
  (hx1:(x==("__debug__":Str))=false) (hx2:(x==("__classdict__":Str))=false) (hy1:(y==("__debug__":Str))=false)
  (he:starEach [e] X.env= [(false,eval e X.env)]:=by rfl):
  PE X (.Call (.Name "sorted" p) [e] [⟨some "key",.Lambda {posonlyargs:= [],args:= [{arg:=y,annotation:=none,pos:=p1}],vararg:=none,kwonlyargs:= [],kw_defaults:= [],kwarg:=none,defaults:= []} (.Attribute (.Subscript (.Name x p2) (.Name y p3) p4) g p5) scope lp,kp⟩] pos) (MH X ta i g q lp.line lp.col):=by
 intro pins s σ H Q I h
 refine wV (v8 I hg hm rfl ?_)
 refine PyProof.Rows.callWith_kw (eS (ha pos pins s σ H _ I h) fun us s1 ⟨vs,H1,I1,rv,q1⟩=>?_) (by rw [he];rfl) (by rw [he];rfl)
 revert q1
 refine Jb ?_
 rintro rg a Pl c n xs kz rfl hrg hn hσ hxs hkz
 refine rA fun hks hcode hC hbm tb q1=>?_
 cases rv with
 | cons r1 rr=>
 cases rr
 cases r1
 show wpAny _ _ (evalAll ((do let v ←eval _ X.env;standAt pos;pure v):: [])) _ _ s1
 refine wpAny_evalAll_cons (bK (OL I1 hcode hC (hbm.get I1.kIn I1.hok) hq rfl hcl tb fun f c' ctv H2 s2 I2 hf hrec k2 tb2 hk2=>bK (wpAny_standAt (dR ?_))))
 refine wpAny_evalAll_nil ?_
 show wpAny _ _ (call (.builtin "sorted") [.ref rg] [(Str.ofString "key",.ref f)]) _ _ s2
 refine a4 (fun m hns _=>?_) I2.loc
 have nP:∀b o,H1 b=some o→(∀ps,o≠ .tbl ps)→b≠Pl:=fun b o e hn z=>by
  rcases tb with tb | ⟨_,tb,_⟩
  ·rw [z,tb] at e;exact hn _ (bG e).symm
  ·rw [z,tb] at e;exact hn _ (bG e).symm
 have kP:∀b o,H1 b=some o→(∀ps,o≠ .tbl ps)→H2 b=some o:=fun b o e hn=>k2 _ _ e (nP b o e hn)
 have oL:∀b o,s2.heap.get? b=some o→(∀es ep,o.data≠ .dict es ep)→b≠X.env.locals:=fun b o e hd z=>by
  revert hns
  refine d7 fun o' es ep e1 e2 _=>?_
  rw [z,e1] at e
  cases e
  exact hd _ _ e2
 have fL:f≠X.env.locals:=oL _ _ hf (by intro es ep z;cases z)
 have cL:c'≠X.env.locals:=by
  revert hrec
  refine oF fun _ o vs t e0 e1 e2 _=>?_
  cases e0
  exact oL _ _ e1 (by intro es ep z;rw [e2] at z;cases z)
 refine Pg (fun t1 t2 t3 hrange=>?_) (I2.hok rg _ (kP _ _ hrg (by intro ps z;cases z)))
 refine AY (P:=X.prog) (w:=X.w) (h₀:={}) (L:=X.env.locals) (m:=m) (news:=EN s2.heap X.env.locals) (kz:=kz) (n:=n) (hi:=(n:Int)) (f:= .ref f) (Rt hns) (PX _ _) hr.hd hrange (small_one ⋯ ⋯ ⋯ ⋯) (by rw [rangeSize_one];split<;>omega) ⋯ hkz (ksk_s1 _ _) (fun z=>ksk_l1 _ _) (fun z=>ksk_t1 f z)
  (fun j t kk hkk h' tk own F' N'=>?_) fun D h' tk out cc F' N' hD ⟨vs,hv1,hv2,ko⟩=>?_
 ·have kp:∀b o,b≠X.env.locals→s2.heap.get? b=some o→h'.get? b=some o:=fun b o hb e=>(N' (b,o) (Db _ (qr.mpr ⟨e,hb⟩))).1
  have I':=I2.moved (tk:=tk) hns F'.ns kp
  obtain⟨r,C,dx,fs,hj,hri,hc,hna,hl⟩:=hks j kk hkk
  refine a4 (fun m' hn' hl'=>?_) I'.loc
  refine a4 (fun u ru l=>?_) (hl' i x (.ref a) hN hσ (Or.inr (Or.inl hcx)))
  cases ru
  rcases l with⟨hk,_⟩ | ⟨_,c0,hc0,hcell⟩
  ·rw [show X.env.kindOf x=some .cell from hcx] at hk
   cases hk
  ·exact LT (P:=X.prog) (w:=X.w) (s:={s2 with heap:=h',toks:=tk}) (H:=H2) I'.kIn I'.hok I'.nolimit (by have:=hr.dp;show X.A.depth<_;omega) (kp _ _ fL hf) (hb _ _ _ _) hs1 hs2 hs3 hs4 hs5 hs6 hx1 hx2 hy1 (mv hrec fun o e=>kp _ _ cL e) (hlx.trans hc0) hcell (kP _ _ hxs (by intro ps z;cases z)) hj (kP _ _ hri (by intro ps z;cases z)) hc hna hl
    fun h2 tk2 t2 k3=>(bY h2 tk2 t2 rfl rfl (F'.kept k3) (N'.grown k3))
 ·have kp:∀b o,b≠X.env.locals→s2.heap.get? b=some o→h'.get? b=some o:=fun b o hb e=>(N' (b,o) (dX _ (qr.mpr ⟨e,hb⟩))).1
  refine lB (fun js v1 v2 v3=>?_) (Mi hkz hv1 hv2 ko)
  have hlen:(js.map fun j:Nat=>V.int (j:Int)).length≤sizeLine:=by rw [aD,v2.length_eq,ft,sizeLine_eq];omega
  exact bV (.ref D) _ (I2.movedLaid (tk:=tk) (o:= .lst (js.map fun j:Nat=>V.int (j:Int))) hns F'.ns kp hD ⟨hlen,(cK out.toList cc v1 (by rw [Array.toArray_toList];exact(N' _ fD).1))⟩) rfl (q1 H2 D js k2 tb2 (I2.hok.fresh hD) v2 v3)
end
section
variable {P:Program} {w:World} {K:PySem.W.Frag} {mg:Str→Option Value} {base:Heap}
theorem Oj.okC {x qual:Str} {st:Stmt} {f:Addr} {fd:FuncData} {N ps:List Str} {k:Nat} {sp:Sp} (F:Oj K x qual st f fd) (S:ap N ps (ag st)) (len:∀vs H Q E,sp vs H Q E→vs.length=ps.length)
  (hbody:∀(cdv:Value) (A:Around) (outer:List Env) (s:Shared) (H:Hp) (vs:List V) (Q:VK) (E:XK),fd.code=cdv→eU k (A.deeper (envOfC qual (ag st) s.heap.objs.size f cdv))→sp vs H Q E→
   ∃t,HS (ER Bi P w K mg base N qual (ag st) f cdv A outer s H E).nox (jB st) t∧t {nx:=fun _ H'=>Q .non H',rt:=Q} (start N vs) H):j1 P w K mg base Bi (k+1) f fd ps sp:=by
 refine lC (fun oc od kV doc pm an=>?_) F.ex
 refine d7 ?_
 rintro cdv ct osl rfl lk hcd
 refine N6 lk hcd S len fun A outer s H vs Q E hr hsp=>?_
 refine a4 (fun t h q=>?_) (hbody cdv A outer s H vs Q E rfl hr hsp)
 exact⟨t,h.nox,q⟩
end
end L2
end
section
namespace L2
open PySem PySem.Spec PySem.Calls PyProof.Rows
open PySem.W (WData Codec OpenSpec Well WellAll ReadsW ReadsAllW)
section
variable {A:Hp} {Pl bm b:Addr} {ob:Obj} {u:HO}
def oS (A:Hp) (Pl bm:Addr) (ob:Obj):Hp:=fun b=>if b=bm then some (.frz ob (.ext fun _=>True)) else if b=Pl then some (.tbl #[]) else A b
theorem Gf:oS A Pl bm ob bm=some (.frz ob (.ext fun _=>True)):=if_pos rfl
theorem Ge (h:Pl≠bm):oS A Pl bm ob Pl=some (.tbl #[]):=(if_neg h).trans (if_pos rfl)
theorem Js (h1:b≠bm) (h2:b≠Pl):oS A Pl bm ob b=A b:=(if_neg h1).trans (if_neg h2)
theorem nA (h:oS A Pl bm ob b=some u):(b=bm∧u= .frz ob (.ext fun _=>True))∨(b=Pl∧u= .tbl #[])∨(b≠Pl∧A b=some u):=by
 by_cases h1:b=bm
 ·rw [h1,Gf] at h
  exact .inl ⟨h1,(bG h).symm⟩
 ·by_cases h2:b=Pl
  ·rw [h2,Ge (h2▸h1)] at h
   exact .inr (.inl ⟨h2,(bG h).symm⟩)
  ·rw [Js h1 h2] at h
   exact .inr (.inr ⟨h2,h⟩)
end
theorem IM {P:Program} {w:World} {K:PySem.W.Frag} {mg mb:Str→Option Value} {CX:Ll} {k:Nat} {fa:Addr} {fd:FuncData} {ps:List Str} {sp:Sp} {s₁:Shared} {vals:List Value} {ds:List WData} {R:PySem.W.WRecords} {cl:Str→Option Addr} {d0:WData} {Pl bm c0:Addr} {ob:Obj}
  (KX:K.In s₁.heap) (hns:s₁.heap.Ns mainGlobals mg) (hb:s₁.heap.Ns builtinsNs mb) (hbb:∀x:Str,x≠"__name__"→mb x=bootBuiltins x) (hlim:s₁.heap.NoLimit) (hg:s₁.gens=#[])
  (hwl:WellAll w.params s₁.heap vals ds) (hpl:AR ds=true) (hwt:∀d∈ds,d.weight≤1048576) (hr:eU k callerA)
  (hcd:PySem.W.CodeHd s₁.heap c0 Pl) (tb:s₁.heap.get? Pl=some (PySem.W.tabObj #[])) (kP:K.lookup Pl=none) (eb:s₁.heap.get? bm=some ob) (db:ob.data= .plain) (kb:K.lookup bm=none)
  (F:∀base:Heap,K.In base→base.Ns mainGlobals mg→j1 P w K mg base CX k fa fd ps sp) (hbind:∀(s:Shared) (us:List Value),us.length=ps.length→BindsTo s fd ⟨us,[]⟩ (ps.zip us)) (hlen:ds.length=ps.length)
  (hsp:∀(H0 H:Hp) (xs:List V),(∀b u,H0 b=some u→H b=some u)→FW H0→H Pl=some (.tbl #[])→H bm=some (.frz ob (.ext fun _=>True))→tw K H0 xs ds→sp xs H (fun v H'=>Dw K H' v d0) fun _ _ _=>False)
  (hCX:∀H e s',CX [] H s₁ (fun _ _ _=>False) e s'→False):
  codeAny (model P w) callerA (.call (.ref fa) ⟨vals,[]⟩) (fun r s'=>∃u as,r= .ok (.ret u)∧ReadsW R cl s'.heap u d0 as∧OldK s₁.heap s'.heap∧s'.os=s₁.os∧AllBare s'.gens) s₁:=by
 refine a4 (fun A ho ar=>?_) (xi ds vals hwl hpl hwt)
 have hO:FW (lF K s₁.heap A):=J6 ar
 have hS:=ES KX ar ds vals hwl hpl ho
 have hV:=pM ho
 have nPb:Pl≠bm:=fun z=>by
  rw [z,eb] at tb
  rw [bG tb] at db
  cases db
 have sub:∀b u,lF K s₁.heap A b=some u→b≠bm∧b≠Pl:=fun b u q=>by
  refine pQ ?_ (xj ar q)
  rintro _ vs _ _ (⟨e,_⟩ | ⟨e,_⟩)
  ·refine⟨fun z=>?_,fun z=>?_⟩
   ·rw [z,eb] at e
    rw [bG e] at db
    cases db
   ·rw [z,tb] at e
    cases e
  ·refine⟨fun z=>?_,fun z=>?_⟩
   ·rw [z,eb] at e
    rw [bG e] at db
    cases db
   ·rw [z,tb] at e
    cases e
 have ext:∀b u,lF K s₁.heap A b=some u→oS (lF K s₁.heap A) Pl bm ob b=some u:=fun b u q=>(Js (sub b u q).1 (sub b u q).2).trans q
 have hok:vW P w (oS (lF K s₁.heap A) Pl bm ob) s₁.heap:=fun b u q=>by
  rcases nA q with⟨rfl,rfl⟩ | ⟨rfl,rfl⟩ | ⟨_,q⟩
  ·exact b8 eb trivial ⟨ob,eb⟩ fun _ _ _ _=>trivial
  ·exact tb
  ·refine pQ ?_ (xj ar q)
   rintro _ vs h1 h2 (⟨e,rfl⟩ | ⟨e,rfl⟩)
   ·exact fi e (by rw [aD];exact h1) (cK vs _ (pM h2) e)
   ·exact fi e (by rw [aD];exact h1) (bD vs (pM h2) _ e (kQ rfl _ rfl))
 have hK:∀b u,oS (lF K s₁.heap A) Pl bm ob b=some u→K.lookup b=none:=fun b u q=>by
  rcases nA q with⟨rfl,_⟩ | ⟨rfl,_⟩ | ⟨_,q⟩
  ·exact kb
  ·exact kP
  ·exact(xj ar q).1
 have noA:∀{b:Addr} {o:Obj} {es:Array DictEntry} {ep:Nat},s₁.heap.get? b=some o→o.data= .dict es ep→oS (lF K s₁.heap A) Pl bm ob b=none:=fun {b o es ep} e d=>by
  cases q:oS (lF K s₁.heap A) Pl bm ob b with
  | none=>rfl
  | some u=>
   rcases nA q with⟨rfl,_⟩ | ⟨rfl,_⟩ | ⟨_,q⟩
   ·rw [eb] at e
    cases e
    rw [db] at d
    cases d
   ·rw [tb] at e
    cases e
    cases d
   ·refine pQ ?_ (xj ar q)
    rintro _ vs _ _ (⟨e2,_⟩ | ⟨e2,_⟩)
    ·rw [e2] at e
     cases e
     have d':Data.seq vs.toArray _=Data.dict es ep:=d
     cases d'
    ·rw [e2] at e
     cases e
     have d':Data.seq vs.toArray _=Data.dict es ep:=d
     cases d'
 have hPl:oS (lF K s₁.heap A) Pl bm ob Pl=some (.tbl #[]):=Ge nPb
 have frz:∀b u,oS (lF K s₁.heap A) Pl bm ob b=some u→b≠Pl→∃o u',u= .frz o u':=fun b u q n=>by
  rcases nA q with⟨_,e⟩ | ⟨z,_⟩ | ⟨_,q⟩
  ·exact⟨_,_,e⟩
  ·exact absurd z n
  ·rcases hO b with z | ⟨o,v,z⟩
   ·rw [q] at z
    cases z
   ·rw [q] at z
    exact⟨_,_,bG z⟩
 have hsp':=hsp (lF K s₁.heap A) (oS (lF K s₁.heap A) Pl bm ob) _ ext hO hPl Gf hS
 generalize oS (lF K s₁.heap A) Pl bm ob=H at hok hK noA hPl frz hsp'
 have base_of:∀{b:Addr} {o:Obj},s₁.heap.get? b=some o→H b=none→(EV s₁.heap H).get? b=some o:=fun e n=>LO e n
 have nsK:∀{b:Addr} {m:Str→Option Value},s₁.heap.Ns b m→(EV s₁.heap H).Ns b m:=fun {b m} ⟨o,es,ep,e,d,r⟩=>(h9 o es ep (base_of e (noA e d)) d r)
 have nK:∀b o,K.lookup b=some o→H b=none:=fun b o e=>by
  cases q:H b with
  | none=>rfl
  | some u=>
   rw [hK b u q] at e
   cases e
 have hKb:K.In (EV s₁.heap H):=fun b o e=>base_of (KX b o e) (nK b o e)
 have hM:Mod K mg (EV s₁.heap H):=⟨hKb,nsK hns,⟨mb,nsK hb,hbb⟩,let ⟨mc,h1,h2⟩:=hlim;⟨mc,nsK h1,h2⟩⟩
 have e0:HV P w K mg (EV s₁.heap H) callerA [] s₁ H:=⟨rfl,hM,fun b o e=>Ny e,Nat.le_of_eq (Km _ _),trivial,fun b hb=>absurd (show b∈([]:List Addr) from hb) (by simp),hok,.of_eq hg⟩
 have hl:vals.length=ps.length:=by rw [n4 hwl];exact hlen
 refine codeAny_mono ((F _ hKb (nsK hns)).run callerA [] s₁ H ⟨vals,[]⟩ vals (vals.map Hw) _ _ hr e0 (hbind s₁ vals hl) hV hsp') fun r s' x=>?_
 cases r with
 | error e=>exact(hCX H e s' x).elim
 | ok fl=>
  cases fl with
  | next=>exact False.elim x
  | brk=>exact False.elim x
  | cont=>exact False.elim x
  | ret u=>
   refine Bf (fun v H'=>?_) x
   refine rA fun os bare un hok' r' q=>?_
   have kept:∀b o,b≠Pl→s₁.heap.get? b=some o→s'.heap.get? b=some o:=fun b o nb e=>by
    cases q2:H b with
    | none=>exact un.keep b o e q2 (by intro z;exact absurd (show b∈([]:List Addr) from z) (by simp)) (by simp)
    | some u2=>
     refine Bf ?_ (frz b u2 q2 nb)
     rintro ob' u3 rfl
     have z2:=un.frzs b ob' _ q2
     obtain⟨e1,_⟩:=hok b _ q2
     obtain⟨e2,_⟩:=hok' b _ z2
     rw [e] at e1
     cases e1
     exact e2
   have KX':K.In s'.heap:=fun b o e=>kept b o (fun z=>by rw [z,kP] at e;cases e) (KX b o e)
   obtain⟨as,hrd⟩:=Dw.reads (R:=R) (cl:=cl) hok' KX' d0 v u q r'
   obtain⟨more,hm⟩:=un.tbls Pl _ hPl
   have gm:s'.heap.get? Pl=some {cls:= .none,data:= .fields (#[]++more)}:=hok' Pl _ hm
   refine cK u as rfl (b8 hrd ⟨fun b o e=>?_,fun b o e=>?_⟩ os bare)
   ·by_cases z:b=Pl
    ·subst z
     rw [tb] at e
     cases e
     refine lC (fun oc vs _ _ _ _=>?_) hcd
     refine DR fun _ _ _ c1 c2 c3 c4 _=>?_
     exact .inr (.inl (fi (bY c0 oc vs c1 c2 c3 c4) rfl (cK (#[]) more rfl gm)))
    ·exact .inl (kept b o z e)
   ·by_cases z:b=Pl
    ·subst z
     exact⟨_,gm⟩
    ·exact⟨o,kept b o z e⟩
theorem Pd {r:OpenSpec} {k:Nat} {q:Program} {loose:List Str} {XP:(Str→Option Value)→Heap→Prop} {YP:World→Heap→Prop} {d:DefRec} {K:PySem.Params→PySem.W.Frag} {CX:Ll} {ps:List Str}
  (hwell:r.wellSaid=true) (hdf:d.params.defaults= []) (hlen:r.args.length=ps.length) (hr:eU k callerA)
  (hY:∀(w:World) (h:Heap),YP w h→(K w.params).In h)
  (F:∀(w:World) (mean:ExcName→Option Value) (mg mb:Str→Option Value) (fa:Addr) (h:Heap),Top q (PySem.W.looseW q loose) mean mg mb h→YP w h→(K w.params).In h→mg d.name=some (.ref fa)→
   ∃(fd:FuncData) (sp:Sp) (Pl bm c0:Addr) (ob:Obj),(∀(s:Shared) (us:List Value),us.length=ps.length→BindsTo s fd ⟨us,[]⟩ (ps.zip us))∧
    (∀base:Heap,(K w.params).In base→base.Ns mainGlobals mg→j1 r.prog w (K w.params) mg base CX k fa fd ps sp)∧
    PySem.W.CodeHd h c0 Pl∧h.get? Pl=some (PySem.W.tabObj #[])∧(K w.params).lookup Pl=none∧h.get? bm=some ob∧ob.data= .plain∧(K w.params).lookup bm=none∧
    ∀(H0 H:Hp) (xs:List V) (a:Codec.denoteAll r.args),(∀b u,H0 b=some u→H b=some u)→FW H0→H Pl=some (.tbl #[])→H bm=some (.frz ob (.ext fun _=>True))→Codec.withinAll r.args a=true→Codec.app r.args r.asked a=true→tw (K w.params) H0 xs (Codec.encAll r.args a)→
     sp xs H (fun v H'=>Dw (K w.params) H' v (r.ret.enc (Codec.app r.args r.f a))) fun _ _ _=>False)
  (hCX:∀(H:Hp) (s:Shared) (e:Value) (s':Shared),CX [] H s (fun _ _ _=>False) e s'→False):
  PySem.W.WalkOS q loose XP YP r d [] (fun f vs=>PySem.call f vs):=by
 intro w s_0 s₁ mg mb G Y fa o pm cd doc dV kV ho hd hcd hD hmg hg args vals as hpre hlay hrd hwl hlo
 refine a4 (fun a e1 e2=>?_) (PySem.W.os_pre_some hpre)
 obtain⟨e3,hwi⟩:=Codec.encAll_of_decAll r.args args a e1
 subst e3
 have KX:=hY w _ Y
 refine Bg (fun fd sp Pl bm c0 ob hb hF t1 t2 t3 t4=>?_) (F w _ mg mb fa _ G.T Y KX hmg)
 refine gk fun t5 t6 hsp=>?_
 refine PySem.W.enter_call (codeAny_mono (IM (R:= []) (cl:=classAt s_0.heap) (d0:=r.ret.enc (Codec.app r.args r.f a)) KX G.T.g G.T.b G.T.builtins G.T.nolimit hg hwl (Ei _ _) (BM hlay) hr t1 t2 t3 t4 t5 t6 hF hb (by rw [BG];exact hlen)
  (fun H0 H xs h1 h2 h3 h4 h5=>hsp H0 H xs a h1 h2 h3 h4 hwi e2 h5) fun H e s'=>hCX H s₁ e s') fun r' s' hq=>?_)
 refine io ?_ hq
 rintro u as' rfl h1 h2 h3 h4
 exact b8 (.inl (i5 u _ as' rfl (fun _=>rfl) h1 ((OpenSpec.post_iff hwell hwi _ _).mpr rfl) fun z=>Bool.noConfusion (show false=true from z))) h2 h3 h4
end L2
end
section
namespace Pf
open PySem PySem.Spec PyProof.Rows L2
def bP (i:Nat):Stmt:=PySem.Challenge.pw_toldchance_s01_answers.main.body.getD i (.Pass ⟨0,0,0,0⟩)
abbrev vH:Stmt:=bv (bP 4) 0
abbrev pj:Stmt:=bv (bP 4) 1
abbrev vI:Stmt:=bv (bP 4) 2
abbrev Aj:Stmt:=bP 5
abbrev xR:Stmt:=bP 6
abbrev Cm:Stmt:=bP 27
abbrev vN:Stmt:=bP 28
abbrev xU:Stmt:=bP 29
abbrev vM:Stmt:=bP 30
abbrev xS:Stmt:=bP 31
abbrev su:Stmt:=bP 32
abbrev xT:Stmt:=bP 33
abbrev nU:Stmt:=bP 34
abbrev sj:Stmt:=bv (bP 37) 0
abbrev so:Stmt:=bv (bP 37) 1
abbrev sn:Stmt:=bv (bP 37) 2
abbrev kh:Stmt:=bv (bP 37) 3
abbrev Am:Stmt:=bP 39
abbrev pr:Stmt:=bP 40
abbrev xY:Stmt:=bP 41
abbrev ua:Stmt:=bP 42
abbrev Ew:Stmt:=bP 44
abbrev Ca:Stmt:=bP 45
abbrev Ao:Stmt:=bP 46
abbrev Cj:Stmt:=bP 47
abbrev Fi:Stmt:=bP 48
abbrev Cf:Stmt:=bP 49
abbrev pA:Stmt:=bP 51
abbrev lv:Stmt:=bP 52
abbrev ke:Stmt:=bv (bP 54) 0
abbrev fP:Stmt:=bv (bP 54) 1
abbrev ig:Stmt:=bv (bP 54) 2
abbrev ie:Stmt:=bv (bP 54) 3
abbrev sy:Stmt:=bP 55
abbrev xX:Stmt:=bP 56
abbrev uc:Stmt:=bP 57
abbrev il:Stmt:=bP 58
abbrev nJ:Stmt:=bP 59
abbrev B9:Stmt:=bP 60
abbrev tY:Stmt:=bv (bP 63) 0
abbrev pq:Stmt:=bv (bP 63) 1
abbrev r6:Stmt:=bv (bP 63) 2
abbrev tZ:Stmt:=bv (bP 63) 3
abbrev mG:Stmt:=bv (bP 63) 4
abbrev mI:Stmt:=bP 64
abbrev sw:Stmt:=bP 65
abbrev An:Stmt:=bP 66
abbrev px:Stmt:=bP 67
abbrev sv:Stmt:=bP 68
abbrev mH:Stmt:=bP 69
abbrev fg:Stmt:=bP 70
abbrev mK:Stmt:=bP 71
abbrev nS:Stmt:=bP 72
abbrev vK:Stmt:=bv (bP 74) 0
abbrev Ae:Stmt:=bv (bP 74) 1
abbrev kg:Stmt:=bv (bP 74) 2
abbrev pk:Stmt:=bv (bP 74) 3
abbrev kf:Stmt:=bv (bP 74) 4
abbrev ji:Stmt:=bv (bP 74) 5
abbrev lT:Stmt:=bv (bP 74) 6
abbrev vJ:Stmt:=bv (bP 74) 7
abbrev vG:Stmt:=bv (bP 75) 0
abbrev Ad:Stmt:=bv (bP 75) 1
abbrev kd:Stmt:=bv (bP 75) 2
abbrev ph:Stmt:=bv (bP 75) 3
abbrev ka:Stmt:=bv (bP 75) 4
abbrev jh:Stmt:=bv (bP 75) 5
abbrev lS:Stmt:=bv (bP 75) 6
abbrev vF:Stmt:=bv (bP 75) 7
abbrev nM:Stmt:=bP 76
abbrev uf:Stmt:=bP 77
abbrev ub:Stmt:=bP 78
abbrev Ag:Stmt:=bP 79
abbrev Cl:Stmt:=bP 80
abbrev Ak:Stmt:=bP 81
abbrev Ah:Stmt:=bP 82
abbrev Er:Stmt:=bP 89
abbrev ue:Stmt:=bP 90
abbrev lI:Stmt:=bP 91
abbrev Es:Stmt:=bP 92
abbrev G3:Stmt:=bP 93
abbrev vO:Stmt:=bP 94
abbrev xV:Stmt:=bP 95
abbrev vL:Stmt:=bP 96
abbrev oy:Stmt:=bP 97
abbrev qL:Stmt:=bP 98
abbrev jI:Stmt:=bP 99
abbrev GV:Stmt:=bP 100
abbrev km:Stmt:=bP 101
abbrev wr:Stmt:=bP 102
abbrev kI:Stmt:=bP 103
abbrev lK:Stmt:=bP 104
abbrev lJ:Stmt:=bP 105
abbrev ud:Stmt:=bP 106
abbrev xW:Stmt:=bP 107
abbrev Ai:Stmt:=bP 113
abbrev t7:Stmt:=bP 114
abbrev t8:Stmt:=bP 115
abbrev Cc:Stmt:=bP 117
abbrev GZ:Stmt:=bP 118
abbrev Cd:Stmt:=bP 119
abbrev G2:Stmt:=bP 120
abbrev En:Stmt:=bP 121
abbrev GT:Stmt:=bP 122
abbrev nQ:Stmt:=bP 124
abbrev kj:Stmt:=bP 125
abbrev r8:Stmt:=bv (bP 127) 0
abbrev nH:Stmt:=bv (bP 127) 1
abbrev r9:Stmt:=bv (bP 127) 2
abbrev lU:Stmt:=bv (bP 127) 3
abbrev G0:Stmt:=bP 129
abbrev JP:Stmt:=bP 130
abbrev Ci:Stmt:=bP 131
abbrev G1:Stmt:=bP 132
abbrev GS:Stmt:=bP 133
abbrev Ep:Stmt:=bP 134
abbrev Cg:Stmt:=bP 135
abbrev Ev:Stmt:=bP 136
abbrev JO:Stmt:=bP 137
abbrev GX:Stmt:=bP 138
abbrev GU:Stmt:=bP 139
abbrev Et:Stmt:=bP 140
abbrev mJ:Stmt:=bP 142
abbrev jG:Stmt:=bP 143
abbrev vP:Stmt:=bP 145
abbrev jJ:Stmt:=bP 146
abbrev gg:Stmt:=bP 147
abbrev jH:Stmt:=bP 148
abbrev g9:Stmt:=bP 149
abbrev t9:Stmt:=bP 150
abbrev nO:Stmt:=bP 151
abbrev Ce:Stmt:=bP 152
abbrev Eu:Stmt:=bP 154
abbrev sB:Stmt:=bP 155
abbrev GW:Stmt:=bP 156
abbrev Eo:Stmt:=bP 157
abbrev za:Stmt:=bP 158
abbrev Ck:Stmt:=bP 159
abbrev Al:Stmt:=bP 160
abbrev Em:Stmt:=bP 161
abbrev GY:Stmt:=bP 162
abbrev nI:Stmt:=bP 163
abbrev kl:Stmt:=bP 165
abbrev ox:Stmt:=bv (bP 167) 0
abbrev Af:Stmt:=bP 168
abbrev sr:Stmt:=bP 169
structure GC (mg:Str→Option Value) (x:Str) (v:V) where
 u:Value
 eq:mg x=some u
 rel:cZ v u
structure Ln (K:PySem.W.Frag) (mg:Str→Option Value) (x:Str) (kvs:List (Int×V)) where
 a:Addr
 eq:mg x=some (.ref a)
 gd:∀(P:Program) (w:World),GD P w K a kvs
 rel:cZ (.ref a) (.ref a):=rfl
structure Df (K:PySem.W.Frag) (mg:Str→Option Value) (x:Str) (st:Stmt) (ps:List Str) where
 f:Addr
 fd:FuncData
 F:Oj K x x st f fd
 ba:∀us:List Value,us.length=ps.length→bindArgs fd ⟨us,[]⟩=pure (ps.zip us)
 mgx:mg x=some (.ref f)
structure Me (K:PySem.W.Frag) (C:Addr) (m qual:Str) (st:Stmt) (ps:List Str) where
 f:Addr
 fd:FuncData
 F:Oj K m qual st f fd
 ba:∀us:List Value,us.length=ps.length→bindArgs fd ⟨us,[]⟩=pure (ps.zip us)
 meth:Lp K C m f
 cl:HR K C
structure Kl (K:PySem.W.Frag) (mg:Str→Option Value) (x:Str) (attrs:List Str) where
 C:Addr
 cl:HR K C
 mgC:mg x=some (.ref C)
 no:∀a∈attrs,ku K C a
 makes:PySem.W.makesIn K C=true
 kp:PySem.W.keepIn K (.ref C)=true
theorem Df.b {K:PySem.W.Frag} {mg:Str→Option Value} {x:Str} {st:Stmt} {ps:List Str} (d:Df K mg x st ps):jc K d.fd ps []:=jc.all d.ba
theorem Df.bt {K:PySem.W.Frag} {mg:Str→Option Value} {x:Str} {st:Stmt} {ps:List Str} (d:Df K mg x st ps) (s:Shared) (us:List Value) (h:us.length=ps.length):BindsTo s d.fd ⟨us,[]⟩ (ps.zip us):= .of_eq (d.ba us h)
theorem Me.b {K:PySem.W.Frag} {C:Addr} {m qual:Str} {st:Stmt} {ps:List Str} (d:Me K C m qual st ps):jc K d.fd ps []:=jc.all d.ba
theorem Kl.mk' {K:PySem.W.Frag} {mg:Str→Option Value} {x:Str} {attrs:List Str} (c:Kl K mg x attrs) {q:Str} {st:Stmt} {ps:List Str} (i:Me K c.C "__init__" q st ps):Mk K c.C i.f:=⟨c.makes,i.meth.at_,i.meth.fn,c.kp⟩
set_option genSizeOf false in
set_option genInjectivity false in
structure Tx (K:PySem.W.Frag) (mg:Str→Option Value) where
 uU:GC mg "STATES" (.int 18446744073709551616)
 Dk:GC mg "FACTOR" (.int 6364136223846793005)
 zX:GC mg "SUMMAND" (.int 1442695040888963407)
 bc:GC mg "WRONG_STREAM" (.int (-1))
 iN:GC mg "WRONG_STEPS" (.int (-2))
 fG:GC mg "WRONG_LENGTH" (.int (-3))
 Dn:GC mg "WRONG_MIRROR" (.int (-4))
 k8:GC mg "WRONG_BOUND" (.int (-5))
 lR:GC mg "WRONG_WEIGHTS" (.int (-6))
 yF:GC mg "WRONG_PART" (.int (-7))
 k9:GC mg "WRONG_PLACE" (.int (-8))
 yE:GC mg "NO_DISTRIBUTION" (.int (-10))
 HQ:GC mg "WRONG_RAW" (.int (-11))
 oN:GC mg "EMPTY_PLACE" (.int (-12))
 zW:GC mg "STREAMS" (.int 64)
 HP:GC mg "PLACES" (.int 64)
 HN:GC mg "MOST_RAWS" (.int 1000)
 Dm:GC mg "MOST_WEIGHTS" (.int 64)
 FP:GC mg "MOST_TEETH" (.int 1000000000000000000)
 kY:GC mg "GREATEST_BOUND" (.int 1000000000000000000)
 Dl:GC mg "GREATEST_SUM" (.int 10000000000000000000000000000000000000000)
 oi:GC mg "GREATEST_FACTOR" (.int 1000000000)
 dN:GC mg "RAW_NUMBERS" (.int 4294967296)
 N0:GC mg "GROUP" (.int 16)
 FQ:GC mg "MOST_TRIES" (.int 20)
 yD:GC mg "GREATEST_BOTTOM" (.int 100)
 DS:GC mg "MOST_THINGS" (.int 60)
 HM:GC mg "MOST_DICE" (.int 6)
 FO:GC mg "MOST_SIDES" (.int 10)
 Do:mg "list"=none
 dk:mg "range"=none
 J4:mg "sum"=none
 Qm:mg "any"=none
 M3:mg "sorted"=none
 Qn:mg "max"=none
 MZ:mg "min"=none
 Ql:mg "all"=none
 gx:mg "len"=none
 Oh:mg "abs"=none
 Qo:mg "zip"=none
 fM:Kl K mg "Leap" ["factor","summand"]
 aK:Kl K mg "Stream" ["state","seed","count","mirror"]
 ai:Kl K mg "Distribution" ["weights","shapes","total","before","ends"]
 aA:Kl K mg "Ratio" ["top","bottom"]
 aP:Kl K mg "Line" ["x","y","bottom","origin","rise"]
 aH:Kl K mg "Comb" ["x","gap","teeth","bottom","origin","rise"]
 bu:Kl K mg "Reader" ["numbers","position"]
 aQ:Kl K mg "Bank" ["streams","distributions"]
 jn:Me K fM.C "__init__" "Leap.__init__" vH ["self","factor","summand"]
 fE:Me K fM.C "landing" "Leap.landing" pj ["self","state"]
 lE:Me K fM.C "then" "Leap.then" vI ["self","other"]
 ve:Df K mg "leap_of" Aj ["steps"]
 rH:Df K mg "distance" xR ["start","end"]
 bW:Df K mg "within" Cm ["number","least","greatest"]
 bB:Df K mg "is_stream" vN ["number"]
 gW:Df K mg "is_steps" xU ["number"]
 gU:Df K mg "is_length" vM ["number"]
 gT:Df K mg "is_bound" xS ["number"]
 iL:Df K mg "are_weights" su ["row"]
 fN:Df K mg "is_place" xT ["number"]
 cq:Df K mg "place_refusal" nU ["bank","d"]
 fq:Me K aK.C "__init__" "Stream.__init__" sj ["self","seed"]
 oJ:Me K aK.C "twin" "Stream.twin" so ["self"]
 k7:Me K aK.C "move" "Stream.move" sn ["self","steps"]
 bL:Me K aK.C "raw_number" "Stream.raw_number" kh ["self"]
 vf:Df K mg "portion" Am ["u","many"]
 jX:Df K mg "chosen_place" pr ["u","weights"]
 nh:Df K mg "shuffled" xY ["stream","row","many"]
 rK:Df K mg "lots_drawn" ua ["stream","weights","many"]
 rQ:Df K mg "whole" Ew ["bank","reader"]
 m4:Df K mg "choose" Ca ["bank","reader"]
 kX:Df K mg "shuffle" Ao ["bank","reader"]
 m9:Df K mg "sample" Cj ["bank","reader"]
 Dh:Df K mg "mix" Fi ["bank","reader"]
 w9:Df K mg "lots" Cf ["bank","reader"]
 m7:Df K mg "is_draw_call" pA ["place"]
 ja:Df K mg "answer_draw_call" lv ["bank","place","reader"]
 iu:Me K ai.C "__init__" "Distribution.__init__" ke ["self","weights","shapes"]
 eK:Me K ai.C "place_taken" "Distribution.place_taken" fP ["self","u"]
 dZ:Me K ai.C "value_in" "Distribution.value_in" ig ["self","place","u"]
 dY:Me K ai.C "value_at" "Distribution.value_at" ie ["self","u"]
 oM:Df K mg "sums_before" sy ["weights"]
 xa:Df K mg "raw_ends" xX ["weights"]
 rM:Df K mg "rounded_up" uc ["top","bottom"]
 cI:Df K mg "distribution_of" il ["weights","shapes"]
 zR:Df K mg "blended" nJ ["one","v","other","w"]
 Je:Df K mg "bent" B9 ["distribution","factor","summand"]
 bp:Me K aA.C "__init__" "Ratio.__init__" tY ["self","top","bottom"]
 eM:Me K aA.C "lowest" "Ratio.lowest" pq ["self"]
 k6:Me K aA.C "times" "Ratio.times" r6 ["self","other"]
 rD:Me K aA.C "plus" "Ratio.plus" tZ ["self","other"]
 eD:Me K aA.C "is_below" "Ratio.is_below" mG ["self","other"]
 cW:Df K mg "common_measure" mI ["a","b"]
 cN:Df K mg "right_ratio" sw ["top","bottom"]
 vg:Df K mg "product" An ["factors"]
 jY:Df K mg "common_parts" px ["bottoms"]
 iM:Df K mg "lowest_over" sv ["top","factors"]
 dM:Df K mg "all_lowest" mH ["ratios"]
 fO:Df K mg "places_of_one_bottom" fg ["ratios","places","start"]
 kU:Df K mg "measure_of_all" mK ["ratios"]
 lQ:Df K mg "lowest_within" nS ["ratio","shared"]
 uQ:Me K aP.C "__init__" "Line.__init__" vK ["self","x","y"]
 zQ:Me K aP.C "at" "Line.at" Ae ["self","t","span"]
 iy:Me K aP.C "told_numbers" "Line.told_numbers" kg ["self"]
 mY:Me K aP.C "far_end" "Line.far_end" pk ["self"]
 iw:Me K aP.C "doubled_mean" "Line.doubled_mean" kf ["self"]
 gq:Me K aP.C "sixfold_square" "Line.sixfold_square" ji ["self"]
 jW:Me K aP.C "part_below" "Line.part_below" lT ["self","v","strict"]
 uP:Me K aP.C "bent" "Line.bent" vJ ["self","factor","summand"]
 uO:Me K aH.C "__init__" "Comb.__init__" vG ["self","x","gap","teeth"]
 zP:Me K aH.C "at" "Comb.at" Ad ["self","t","span"]
 ir:Me K aH.C "told_numbers" "Comb.told_numbers" kd ["self"]
 mX:Me K aH.C "far_end" "Comb.far_end" ph ["self"]
 iq:Me K aH.C "doubled_mean" "Comb.doubled_mean" ka ["self"]
 gn:Me K aH.C "sixfold_square" "Comb.sixfold_square" jh ["self"]
 jV:Me K aH.C "part_below" "Comb.part_below" lS ["self","v","strict"]
 uN:Me K aH.C "bent" "Comb.bent" vF ["self","factor","summand"]
 iQ:Df K mg "common_bottom" nM ["one","other"]
 ia:Df K mg "whole_over" uf ["ratio","bottom"]
 jZ:Df K mg "room_below" ub ["top","bottom","v"]
 vc:Df K mg "clamped" Ag ["number","most"]
 uT:Df K mg "turned" Cl ["ratio","factor","summand"]
 pU:Df K mg "line_of" Ak ["x","y"]
 mj:Df K mg "comb_of" Ah ["x","gap","teeth"]
 yC:Df K mg "point" Er ["x"]
 l6:Df K mg "whole_comb" ue ["a","b"]
 f7:Df K mg "points_from" lI ["first","weights"]
 rL:Df K mg "power" Es ["base","exponent"]
 Dj:Df K mg "ways" G3 ["many","some"]
 jo:Df K mg "one_point" vO ["numbers"]
 kW:Df K mg "one_comb" xV ["numbers"]
 oh:Df K mg "are_tries" vL ["tries","p","q"]
 jp:Df K mg "successes" oy ["numbers"]
 kS:Df K mg "failures" qL ["numbers"]
 eT:Df K mg "marked_things" jI ["numbers"]
 zT:Df K mg "dice" GV ["numbers"]
 iD:Df K mg "with_one_die_more" km ["counts","sides"]
 pV:Df K mg "points" wr ["many","numbers"]
 fF:Df K mg "joined_lines" kI ["many","numbers"]
 ga:Df K mg "whole_combs" lK ["many","numbers"]
 f8:Df K mg "told_shapes" lJ ["many","numbers"]
 rO:Df K mg "told_shape" ud ["numbers"]
 jb:Df K mg "ratio_in" xW ["numbers","place"]
 zS:Df K mg "defined" Ai ["kind","a","b"]
 rF:Df K mg "by_numbers" t7 ["kind","a","b"]
 rG:Df K mg "by_weights" t8 ["kind","a","b"]
 m5:Df K mg "define" Cc ["bank","reader"]
 Dg:Df K mg "kept" GZ ["bank","d","distribution"]
 m6:Df K mg "forget" Cd ["bank","reader"]
 xg:Df K mg "told" G2 ["bank","reader"]
 rE:Df K mg "blend" En ["bank","reader"]
 wZ:Df K mg "bend" GT ["bank","reader"]
 lP:Df K mg "is_place_call" nQ ["place"]
 iA:Df K mg "answer_place_call" kj ["bank","place","reader"]
 oI:Me K bu.C "__init__" "Reader.__init__" r8 ["self","numbers"]
 lN:Me K bu.C "at_end" "Reader.at_end" nH ["self"]
 au:Me K bu.C "take" "Reader.take" r9 ["self"]
 dj:Me K bu.C "take_row" "Reader.take_row" lU ["self"]
 xc:Df K mg "seed" G0 ["bank","reader"]
 Di:Df K mg "raw" JP ["bank","reader"]
 xb:Df K mg "raws" Ci ["bank","reader"]
 xf:Df K mg "skip" G1 ["bank","reader"]
 wY:Df K mg "back" GS ["bank","reader"]
 Bw:Df K mg "moved" Ep ["bank","k","n","steps"]
 m8:Df K mg "mirror" Cg ["bank","reader"]
 rP:Df K mg "where" Ev ["bank","reader"]
 De:Df K mg "far" JO ["bank","reader"]
 w8:Df K mg "goto" GX ["bank","reader"]
 w6:Df K mg "copy" GU ["bank","reader"]
 rN:Df K mg "space" Et ["bank","reader"]
 kT:Df K mg "is_stream_call" mJ ["place"]
 gS:Df K mg "answer_stream_call" jG ["bank","place","reader"]
 uS:Df K mg "shares_of" vP ["distribution"]
 fT:Df K mg "taken_classes" jJ ["distribution"]
 iC:Df K mg "mean_and_variance" gg ["distribution"]
 gX:Df K mg "least_and_greatest" jH ["distribution"]
 mZ:Df K mg "chance_below" g9 ["distribution","v","strict"]
 rJ:Df K mg "hits_below" t9 ["distribution","v","strict"]
 lO:Df K mg "hits_in_class" nO ["distribution","place","start","v","strict"]
 uR:Df K mg "is_hit" Ce ["distribution","place","u","v","strict"]
 vh:Df K mg "value" Eu ["bank","reader"]
 f9:Df K mg "two_numbers" sB ["ratio"]
 zU:Df K mg "draw" GW ["bank","reader"]
 vd:Df K mg "draws" Eo ["bank","reader"]
 Bv:Df K mg "drawn" za ["bank","d","k","many"]
 pW:Df K mg "shares" Ck ["bank","reader"]
 ml:Df K mg "moments" Al ["bank","reader"]
 vb:Df K mg "below" Em ["bank","reader"]
 zV:Df K mg "hits" GY ["bank","reader"]
 iP:Df K mg "below_refusal" nI ["bank","d","p","q","strict"]
 iB:Df K mg "answer_value_call" kl ["bank","place","reader"]
 og:Me K aQ.C "__init__" "Bank.__init__" ox ["self"]
 mi:Df K mg "answers" Af ["calls"]
 oK:Df K mg "answer_call" sr ["bank","reader"]
 bN:Ln K mg "DRAW_CALLS" [(11,.ref rQ.f),(12,.ref m4.f),(13,.ref kX.f),(14,.ref m9.f),(15,.ref Dh.f),(16,.ref w9.f)]
 bM:Ln K mg "BY_NUMBERS" [(0,.ref jo.f),(1,.ref kW.f),(6,.ref jp.f),(7,.ref kS.f),(8,.ref eT.f),(9,.ref zT.f)]
 bF:Ln K mg "NUMBERS_TAKEN" [(0,.int 2),(1,.int 2),(6,.int 3),(7,.int 3),(8,.int 3),(9,.int 2)]
 cQ:Ln K mg "BY_WEIGHTS" [(2,.ref pV.f),(3,.ref fF.f),(4,.ref ga.f),(5,.ref f8.f)]
 ca:Ln K mg "NUMBERS_A_CLASS" [(2,.int 2),(3,.int 2),(4,.int 2),(5,.int 6)]
 cC:Ln K mg "NUMBERS_BEYOND" [(2,.int 0),(3,.int 2),(4,.int 0),(5,.int 0)]
 bS:Ln K mg "PLACE_CALLS" [(17,.ref m5.f),(18,.ref m6.f),(19,.ref xg.f),(27,.ref rE.f),(28,.ref wZ.f)]
 aO:Ln K mg "STREAM_CALLS" [(0,.ref xc.f),(1,.ref Di.f),(2,.ref xb.f),(3,.ref xf.f),(4,.ref wY.f),(5,.ref m8.f),(6,.ref rP.f),(7,.ref De.f),(8,.ref w8.f),(9,.ref w6.f),(10,.ref rN.f)]
 bI:Ln K mg "VALUE_CALLS" [(20,.ref vh.f),(21,.ref zU.f),(22,.ref vd.f),(23,.ref pW.f),(24,.ref ml.f),(25,.ref vb.f),(26,.ref zV.f)]
section
variable {P:Program} {w:World} {K:PySem.W.Frag} {mg:Str→Option Value} {base:Heap} {x m q:Str} {st:Stmt} {ps N:List Str} {C:Addr} {k:Nat} {sp:Sp}
abbrev dO (P:Program) (w:World) (base:Heap) (d:Df K mg x st ps) (k:Nat) (sp:Sp):Prop:=j1 P w K mg base Bi k d.f d.fd ps sp
abbrev sP (mg:Str→Option Value) (P:Program) (w:World) (base:Heap) (d:Me K C m q st ps) (k:Nat) (sp:Sp):Prop:=j1 P w K mg base Bi k d.f d.fd ps sp
theorem Df.okA (d:Df K mg x st ps) (S:ap N ps (ag st))
  (hb:∀(cdv:Value) (A:Around) (outer:List Env) (s:Shared) (H:Hp) (vs:List V) (Q:VK) (E:XK),eU k (A.deeper (envOfC x (ag st) s.heap.objs.size d.f cdv))→sp vs H Q E→
   ∃t,HS (ER Bi P w K mg base N x (ag st) d.f cdv A outer s H E).nox (jB st) t∧t {nx:=fun _ H'=>Q .non H',rt:=Q} (start N vs) H)
  (len:∀vs H Q E,sp vs H Q E→vs.length=ps.length:=by intro _ _ _ _ h;(repeat obtain⟨_,h⟩:=h);all_goals (subst_vars;rfl)):j1 P w K mg base Bi (k+1) d.f d.fd ps sp:=d.F.ok S len hb
theorem Me.okA (d:Me K C m q st ps) (S:ap N ps (ag st))
  (hb:∀(cdv:Value) (A:Around) (outer:List Env) (s:Shared) (H:Hp) (vs:List V) (Q:VK) (E:XK),eU k (A.deeper (envOfC q (ag st) s.heap.objs.size d.f cdv))→sp vs H Q E→
   ∃t,HS (ER Bi P w K mg base N q (ag st) d.f cdv A outer s H E).nox (jB st) t∧t {nx:=fun _ H'=>Q .non H',rt:=Q} (start N vs) H)
  (len:∀vs H Q E,sp vs H Q E→vs.length=ps.length:=by intro _ _ _ _ h;(repeat obtain⟨_,h⟩:=h);all_goals (subst_vars;rfl)):j1 P w K mg base Bi (k+1) d.f d.fd ps sp:=d.F.ok S len hb
end
theorem cf {N ps:List Str} {sc:Scope} (a:sc.kind= .function:=by rfl) (b:sc.isCoroutine=false:=by rfl) (c:sc.isGenerator=false:=by rfl) (d:N.Nodup:=by decide+kernel) (e:N.take ps.length=ps:=by rfl)
  (f:∀x∈ps,sc.names.lookup x=some .local∨sc.names.lookup x=some .cell:=by decide+kernel) (g:∀y∈sc.names,y.2≠ .free:=by decide+kernel):ap N ps sc:=⟨a,b,c,d,e,f,g⟩
theorem Co:ap ["self","factor","summand"] ["self","factor","summand"] (ag vH):=cf
theorem x8:ap ["self","state"] ["self","state"] (ag pj):=cf
theorem Cp:ap ["self","other"] ["self","other"] (ag vI):=cf
theorem fJ:ap ["steps","left","leap","power"] ["steps"] (ag Aj):=cf
theorem dL:ap ["start","end","state","power","bit","steps"] ["start","end"] (ag xR):=cf
theorem G5:ap ["number","least","greatest"] ["number","least","greatest"] (ag Cm):=cf
theorem Cw:ap ["number"] ["number"] (ag vN):=cf
theorem DC:ap ["number"] ["number"] (ag xU):=cf
theorem Cv:ap ["number"] ["number"] (ag vM):=cf
theorem DA:ap ["number"] ["number"] (ag xS):=cf
theorem zf:ap ["row"] ["row"] (ag su):=cf
theorem DB:ap ["number"] ["number"] (ag xT):=cf
theorem ww:ap ["bank","d"] ["bank","d"] (ag nU):=cf
theorem zd:ap ["self","seed"] ["self","seed"] (ag sj):=cf
theorem pC:ap ["self","other"] ["self"] (ag so):=cf
theorem ze:ap ["self","steps"] ["self","steps"] (ag sn):=cf
theorem jK:ap ["self","number"] ["self"] (ag kh):=cf
theorem Fp:ap ["u","many"] ["u","many"] (ag Am):=cf
theorem dU:ap ["u","weights","mark","place","reached"] ["u","weights"] (ag pr):=cf
theorem iI:ap ["stream","row","many","mixed","i","j","held"] ["stream","row","many"] (ag xY):=cf
theorem fQ:ap ["stream","weights","many","left","places","i","place"] ["stream","weights","many"] (ag ua):=cf
theorem mQ:ap ["bank","reader","k","a","b","u"] ["bank","reader"] (ag Ew):=cf
theorem nW:ap ["bank","reader","k","weights","u"] ["bank","reader"] (ag Ca):=cf
theorem qS:ap ["bank","reader","k","n"] ["bank","reader"] (ag Ao):=cf
theorem nY:ap ["bank","reader","k","n","m"] ["bank","reader"] (ag Cj):=cf
theorem ui:ap ["bank","reader","k","row","number"] ["bank","reader"] (ag Fi):=cf
theorem me:ap ["bank","reader","k","m","weights","weight"] ["bank","reader"] (ag Cf):=cf
theorem ya:ap ["place"] ["place"] (ag pA):=cf
theorem kn:ap ["bank","place","reader","call"] ["bank","place","reader"] (ag lv):=cf
theorem qO:ap ["self","weights","shapes"] ["self","weights","shapes"] (ag ke):=cf
theorem bw:ap ["self","u","low","high","middle"] ["self","u"] (ag fP):=cf
theorem gI:ap ["self","place","u","t"] ["self","place","u"] (ag ig):=cf
theorem mM:ap ["self","u"] ["self","u"] (ag ie):=cf
theorem fA:ap ["weights","sums","reached","weight"] ["weights"] (ag sy):=cf
theorem fZ:ap ["weights","ends","total","reached","weight"] ["weights"] (ag xX):=cf
theorem AV:ap ["top","bottom"] ["top","bottom"] (ag uc):=cf
theorem gM:ap ["weights","shapes","shape"] ["weights","shapes"] (ag il):=cf
theorem hJ:ap ["one","v","other","w","weight","weights"] ["one","v","other","w"] (ag nJ):=cf
theorem zh:ap ["distribution","factor","summand","shape","shapes"] ["distribution","factor","summand"] (ag B9):=cf
theorem AS:ap ["self","top","bottom"] ["self","top","bottom"] (ag tY):=cf
theorem nV:ap ["self","shared"] ["self"] (ag pq):=cf
theorem zb:ap ["self","other"] ["self","other"] (ag r6):=cf
theorem AT:ap ["self","other"] ["self","other"] (ag tZ):=cf
theorem vm:ap ["self","other"] ["self","other"] (ag mG):=cf
theorem dn:ap ["a","b","larger","smaller","rest"] ["a","b"] (ag mI):=cf
theorem pF:ap ["top","bottom","ratio"] ["top","bottom"] (ag sw):=cf
theorem l5:ap ["factors","result","factor"] ["factors"] (ag An):=cf
theorem dW:ap ["bottoms","parts","reached","bottom","part"] ["bottoms"] (ag px):=cf
theorem dD:ap ["top","factors","left","bottom","factor","shared"] ["top","factors"] (ag sv):=cf
theorem cp:ap ["ratios","results","places","start","group","place","shared"] ["ratios"] (ag mH):=cf
theorem dA:ap ["ratios","places","start","bottom","place"] ["ratios","places","start"] (ag fg):=cf
theorem d6:ap ["ratios","bottom","tops","ratio"] ["ratios"] (ag mK):=cf
theorem mP:ap ["ratio","shared","measure"] ["ratio","shared"] (ag nS):=cf
theorem Cr:ap ["self","x","y"] ["self","x","y"] (ag vK):=cf
theorem Fk:ap ["self","t","span"] ["self","t","span"] (ag Ae):=cf
theorem qQ:ap ["self"] ["self"] (ag kg):=cf
theorem x9:ap ["self"] ["self"] (ag pk):=cf
theorem qP:ap ["self"] ["self"] (ag kf):=cf
theorem oA:ap ["self"] ["self"] (ag ji):=cf
theorem gJ:ap ["self","v","strict","width","room"] ["self","v","strict"] (ag lT):=cf
theorem Cq:ap ["self","factor","summand"] ["self","factor","summand"] (ag vJ):=cf
theorem Cn:ap ["self","x","gap","teeth"] ["self","x","gap","teeth"] (ag vG):=cf
theorem Fj:ap ["self","t","span"] ["self","t","span"] (ag Ad):=cf
theorem qN:ap ["self"] ["self"] (ag kd):=cf
theorem xZ:ap ["self"] ["self"] (ag ph):=cf
theorem qM:ap ["self"] ["self"] (ag ka):=cf
theorem iH:ap ["self","way"] ["self"] (ag jh):=cf
theorem cU:ap ["self","v","strict","room","step","reached"] ["self","v","strict"] (ag lS):=cf
theorem ug:ap ["self","factor","summand","gap"] ["self","factor","summand"] (ag vF):=cf
theorem wu:ap ["one","other"] ["one","other"] (ag nM):=cf
theorem AX:ap ["ratio","bottom"] ["ratio","bottom"] (ag uf):=cf
theorem AU:ap ["top","bottom","v"] ["top","bottom","v"] (ag ub):=cf
theorem Fl:ap ["number","most"] ["number","most"] (ag Ag):=cf
theorem Aq:ap ["ratio","factor","summand","result"] ["ratio","factor","summand"] (ag Cl):=cf
theorem Fo:ap ["x","y"] ["x","y"] (ag Ak):=cf
theorem Fm:ap ["x","gap","teeth"] ["x","gap","teeth"] (ag Ah):=cf
theorem IE:ap ["x"] ["x"] (ag Er):=cf
theorem AW:ap ["a","b"] ["a","b"] (ag ue):=cf
theorem kK:ap ["first","weights","i","shapes"] ["first","weights"] (ag lI):=cf
theorem qR:ap ["base","exponent","result","i"] ["base","exponent"] (ag Es):=cf
theorem u7:ap ["many","some","result","i"] ["many","some"] (ag G3):=cf
theorem Cy:ap ["numbers"] ["numbers"] (ag vO):=cf
theorem DE:ap ["numbers"] ["numbers"] (ag xV):=cf
theorem Ct:ap ["tries","p","q"] ["tries","p","q"] (ag vL):=cf
theorem fz:ap ["numbers","n","p","q","i"] ["numbers"] (ag oy):=cf
theorem fY:ap ["numbers","m","p","q","i","weights"] ["numbers"] (ag qL):=cf
theorem dE:ap ["numbers","a","b","n","i"] ["numbers"] (ag jI):=cf
theorem ma:ap ["numbers","n","s","counts","i"] ["numbers"] (ag GV):=cf
theorem er:ap ["counts","sides","result","i","side"] ["counts","sides"] (ag km):=cf
theorem uj:ap ["many","numbers","i"] ["many","numbers"] (ag wr):=cf
theorem jO:ap ["many","numbers","i"] ["many","numbers"] (ag kI):=cf
theorem kM:ap ["many","numbers","i"] ["many","numbers"] (ag lK):=cf
theorem kL:ap ["many","numbers","i"] ["many","numbers"] (ag lJ):=cf
theorem lL:ap ["numbers","x","other"] ["numbers"] (ag ud):=cf
theorem DF:ap ["numbers","place"] ["numbers","place"] (ag xW):=cf
theorem Fn:ap ["kind","a","b"] ["kind","a","b"] (ag Ai):=cf
theorem sC:ap ["kind","a","b","make"] ["kind","a","b"] (ag t7):=cf
theorem sH:ap ["kind","a","b","make"] ["kind","a","b"] (ag t8):=cf
theorem lx:ap ["bank","reader","d","kind","a","b"] ["bank","reader"] (ag Cc):=cf
theorem KW:ap ["bank","d","distribution"] ["bank","d","distribution"] (ag GZ):=cf
theorem uh:ap ["bank","reader","d","refusal"] ["bank","reader"] (ag Cd):=cf
theorem mh:ap ["bank","reader","d","refusal","distribution","numbers","shape"] ["bank","reader"] (ag G2):=cf
theorem gL:ap ["bank","reader","d","e","f","v","w","one","other"] ["bank","reader"] (ag En):=cf
theorem fX:ap ["bank","reader","d","e","p","q","r","s","distribution","factor","summand"] ["bank","reader"] (ag GT):=cf
theorem wv:ap ["place"] ["place"] (ag nQ):=cf
theorem jL:ap ["bank","place","reader","call"] ["bank","place","reader"] (ag kj):=cf
theorem zc:ap ["self","numbers"] ["self","numbers"] (ag r8):=cf
theorem wt:ap ["self"] ["self"] (ag nH):=cf
theorem pB:ap ["self","number"] ["self"] (ag r9):=cf
theorem gK:ap ["self","length","start"] ["self"] (ag lU):=cf
theorem zj:ap ["bank","reader","k","s"] ["bank","reader"] (ag G0):=cf
theorem G4:ap ["bank","reader","k"] ["bank","reader"] (ag JP):=cf
theorem mf:ap ["bank","reader","k","n","stream","i"] ["bank","reader"] (ag Ci):=cf
theorem zk:ap ["bank","reader","k","n"] ["bank","reader"] (ag G1):=cf
theorem zg:ap ["bank","reader","k","n"] ["bank","reader"] (ag GS):=cf
theorem ID:ap ["bank","k","n","steps"] ["bank","k","n","steps"] (ag Ep):=cf
theorem nX:ap ["bank","reader","k","b","stream"] ["bank","reader"] (ag Cg):=cf
theorem wx:ap ["bank","reader","k","stream"] ["bank","reader"] (ag Ev):=cf
theorem Cu:ap ["bank","reader","x","y"] ["bank","reader"] (ag JO):=cf
theorem pE:ap ["bank","reader","k","y","stream","n"] ["bank","reader"] (ag GX):=cf
theorem zi:ap ["bank","reader","k","j"] ["bank","reader"] (ag GU):=cf
theorem gO:ap ["bank","reader","k","n","g","leap","state","i"] ["bank","reader"] (ag Et):=cf
theorem vn:ap ["place"] ["place"] (ag mJ):=cf
theorem jj:ap ["bank","place","reader","call"] ["bank","place","reader"] (ag jG):=cf
theorem gN:ap ["distribution","found","start","end"] ["distribution"] (ag vP):=cf
theorem fK:ap ["distribution","weight","shape"] ["distribution"] (ag jJ):=cf
theorem aL:ap ["distribution","classes","weight","shape","parts","bottom","squared","means","squares","total","mean","variance"] ["distribution"] (ag gg):=cf
theorem bi:ap ["distribution","ends","weight","shape","least","greatest","end"] ["distribution"] (ag jH):=cf
theorem bh:ap ["distribution","v","strict","weight","shape","chances","chance","parts","bottom","reached"] ["distribution","v","strict"] (ag g9):=cf
theorem d5:ap ["distribution","v","strict","found","start","place","end"] ["distribution","v","strict"] (ag t9):=cf
theorem cn:ap ["distribution","place","start","v","strict","end","low","high","at_first","middle"] ["distribution","place","start","v","strict"] (ag nO):=cf
theorem Ap:ap ["distribution","place","u","v","strict","value"] ["distribution","place","u","v","strict"] (ag Ce):=cf
theorem qT:ap ["bank","reader","d","u","refusal"] ["bank","reader"] (ag Eu):=cf
theorem zl:ap ["ratio"] ["ratio"] (ag sB):=cf
theorem u6:ap ["bank","reader","d","k","refusal"] ["bank","reader"] (ag GW):=cf
theorem mO:ap ["bank","reader","d","k","n","refusal"] ["bank","reader"] (ag Eo):=cf
theorem iY:ap ["bank","d","k","many","distribution","stream","numbers","ratio","i"] ["bank","d","k","many"] (ag za):=cf
theorem nZ:ap ["bank","reader","d","refusal","found"] ["bank","reader"] (ag Ck):=cf
theorem hU:ap ["bank","reader","d","refusal","distribution","answer","ratio"] ["bank","reader"] (ag Al):=cf
theorem kJ:ap ["bank","reader","d","p","q","strict","refusal"] ["bank","reader"] (ag Em):=cf
theorem md:ap ["bank","reader","d","p","q","strict","refusal"] ["bank","reader"] (ag GY):=cf
theorem mN:ap ["bank","d","p","q","strict","refusal"] ["bank","d","p","q","strict"] (ag nI):=cf
theorem jM:ap ["bank","place","reader","call"] ["bank","place","reader"] (ag kl):=cf
theorem mL:ap ["self","k"] ["self"] (ag ox):=cf
theorem jN:ap ["calls","bank","reader","answered","answer"] ["calls"] (ag Af):=cf
theorem pD:ap ["bank","reader","place"] ["bank","reader"] (ag sr):=cf
def Hb (C:Addr) (R:List V→List (Str×V)→Prop):Sp:=fun vs H Q _=>∃p dx args fs,vs= .ref p::args∧R args fs∧H p=some (.ins C dx [])∧∀H':Hp,H' p=some (.ins C dx fs)→(∀b o,H b=some o→b≠p→H' b=some o)→Q .non H'
theorem dh {C x dx:Addr} {R:List V→List (Str×V)→Prop} {args:List V} {fs:List (Str×V)} {H1:Hp} {G:Hp→Prop} {E:XK} (nx:H1 x=none) (nd:H1 dx=none) (k:∀H2,H2 x=some (.ins C dx fs)→aC H1 H2→G H2) (r:R args fs):
  Hb C R (.ref x::(args++ [])) (bT (bT H1 dx (.own x)) x (.ins C dx [])) (fun v H2=>v= .non∧G H2) E:=
 ⟨x,dx,args,fs,by rw [vU],r,af,fun H' h1 h2=>⟨rfl,k H' h1 (aC.made nx nd h2)⟩⟩
theorem oU {a b:Int} (h1: -(2 ^ 64)<a) (h2:a<2 ^ 64):IntMulOk a b:= .of_left (intBits_le_64 h1 h2)
theorem Gv {a b:Int} (h1: -(2 ^ 64)<b) (h2:b<2 ^ 64):IntMulOk a b:= .of_right (intBits_le_64 h1 h2)
theorem aC.laid {H:Hp} {p:Addr} {o:HO} (h:H p=none):aC H (bT H p o):=fun b u e=>by
 rw [ak (aw e h)]
 exact e
section
variable {X:Cx} {x m q:Str} {st:Stmt} {ps at_:List Str} {k n:Nat} {sp:Sp} {e a b o:Expr} {es:List Expr} {t:TA} {te ta tb:TE} {p pos apos pos':Pos} {C:Addr}
theorem bj (d:Df X.K X.mg x st ps) (F:j1 X.prog X.w X.K X.mg X.base Bi k d.f d.fd ps sp) (hr:eU n X.A) (ha:PA X (e::es) t) (hk:k≤n:=by decide) (hg:Gl X x:=by rfl) (hdb:(x==("__debug__":Str))=false:=by decide)
  (he:starEach (e::es) X.env=(false,eval e X.env)::starEach es X.env:=by rfl) (hpl:(backTo pos (starEach es X.env)).any (·.1)=false:=by rfl):PE X (.Call (.Name x p) (e::es) [] pos) (Of sp [] E0 t):=NC F (hr.mono hk) hg d.mgx d.F.kp d.b .nil Ab ha hdb he hpl
theorem Ax {c:Kl X.K X.mg x at_} (d:Me X.K c.C "__init__" q st ps) (F:j1 X.prog X.w X.K X.mg X.base Bi k d.f d.fd ps sp) (hr:eU n X.A) (ha:PA X (e::es) t) (hk:k+1≤n:=by decide) (hg:Gl X x:=by rfl) (hdb:(x==("__debug__":Str))=false:=by decide)
  (he:starEach (e::es) X.env=(false,eval e X.env)::starEach es X.env:=by rfl) (hpl:(backTo pos (starEach es X.env)).any (·.1)=false:=by rfl):PE X (.Call (.Name x p) (e::es) [] pos) (MF c.C sp [] E0 t):=Fd (c.mk' d) F (hr.mono hk) hg c.mgC d.b .nil Ab ha hdb he hpl
theorem zN {pl:Sem Bool} (ho:PE X o ta) (d:Me X.K C m q st ps) (F:j1 X.prog X.w X.K X.mg X.base Bi k d.f d.fd ps sp) (hr:eU n X.A) (ha:PA X (e::es) t) (hk:k≤n:=by decide)
  (hst:starEach (e::es) X.env=(false,eval e X.env)::starEach es X.env:=by rfl) (hpl:(backTo pos (starEach es X.env)).any (·.1)=false:=by rfl)
  (ht:eval (.Call (.Attribute o m apos) (e::es) [] pos) X.env=(do
   let ov ←eval o X.env
   standAt apos.atName
   let (f,first) ←holding [ov] (getMethod ov m pl)
   callWith pos f first (backTo pos (starEach (e::es) X.env)) (backToKw pos (keywordEach [] X.env))):=by rfl):PE X (.Call (.Attribute o m apos) (e::es) [] pos) (Hr C m sp [] E0 ta t):=ND ho d.cl d.meth F (hr.mono hk) d.b .nil Ab ha hst hpl ht
theorem eO {pl:Sem Bool} (ho:PE X o ta) (d:Me X.K C m q st ps) (F:j1 X.prog X.w X.K X.mg X.base Bi k d.f d.fd ps sp) (hr:eU n X.A) (hk:k≤n:=by decide)
  (ht:eval (.Call (.Attribute o m apos) [] [] pos) X.env=(do
   let ov ←eval o X.env
   standAt apos.atName
   let (f,first) ←holding [ov] (getMethod ov m pl)
   callWith pos f first (backTo pos (starEach [] X.env)) (backToKw pos (keywordEach [] X.env))):=by rfl):PE X (.Call (.Attribute o m apos) [] [] pos) (Hr C m sp [] E0 ta MG):=Mp ho d.cl d.meth F (hr.mono hk) d.b .nil Ab ht
theorem fk {v:V} (g:GC X.mg x v) (hg:Gl X x:=by rfl) (hd:(x==("__debug__":Str))=false:=by decide):PE X (.Name x pos) (tC v):=JI hg g.eq g.rel hd
theorem JZ {kvs:List (Int×V)} (g:Ln X.K X.mg x kvs) (hg:Gl X x:=by rfl) (hd:(x==("__debug__":Str))=false:=by decide):PE X (.Name x pos) (tC (.ref g.a)):=JI hg g.eq g.rel hd
theorem aZ (i:Nat) (hN:X.N.Nodup) (he:PE X e te) (hi:X.N[i]?=some x:=by rfl) (hx:On X.env.scope x:=by first | exact Or.inl rfl | exact Or.inr rfl) (hs:swapsWith e (some (.Name x pos')) pos.line X.env=pure false:=by rfl) (hf:X.fn x=true∨X.env.scope.names.lookup x=some .local:=by first | exact .inl rfl | exact .inr rfl | assumption):
  PS X (.Assign [.Name x pos'] e pos) (NU te (Ea i)):=OW hN hi hx he hs hf
theorem kZ (i:Nat) (hN:X.N.Nodup) (hi:X.N[i]?=some x:=by rfl) (hx:On X.env.scope x:=by first | exact Or.inl rfl | exact Or.inr rfl) (hf:X.fn x=true∨X.env.scope.names.lookup x=some .local:=by first | exact .inl rfl | exact .inr rfl | assumption):PG X (.Name x pos) (Ea i):=NE hN hi hx hf
theorem ip (ha:PE X a ta) (hb:PE X b tb) (hs:Jf b:=by exact fun _ _=>rfl):PE X (.Subscript a b pos) (Qg (O0 X.K) ta tb):=GM Jw ha hb hs
end
end Pf
end
namespace Pf
open PySem PySem.Spec PyProof.Rows L2
section
variable {P:Program} {w:World} {K:PySem.W.Frag} {mg:Str→Option Value} {base:Heap}
def lf (f:Nat×Nat):List (Str×V):= [("factor",.int (f.1:Nat)),("summand",.int (f.2:Nat))]
def pY (T:Tx K mg) (H:Hp) (a:Addr) (f:Nat×Nat):Prop:=∃dx,H a=some (.ins T.fM.C dx (lf f))
theorem LU (f:Nat×Nat) (x:Nat):((f.1:Int)*(x:Int)+(f.2:Int))%18446744073709551616=((Lc.lG f x:Nat):Int):=by
 unfold Lc.lG
 rw [Int.natCast_emod,pT,b9]
 rfl
theorem Gu (a b:Nat):((a:Int)*(b:Int))%18446744073709551616=((a*b%Vbdeab.P:Nat):Int):=by
 rw [Int.natCast_emod,b9]
 rfl
def CG (T:Tx K mg):Sp:=Hb T.fM.C (fun args fs=>∃a c:Nat,args= [.int a,.int c]∧fs=lf (a,c))
theorem jE (T:Tx K mg):sP mg P w base T.jn 1 (CG T):=by
 refine T.jn.okA Co ?_ (by rintro _ _ _ _ ⟨p,dx,_,_,rfl,⟨a,c,rfl,rfl⟩,hp,k⟩;rfl)
 rintro _ A _ s H _ Q E hr
 refine oF ?_
 rintro p dx _ _ rfl U1 hp k
 refine rB ?_ U1
 rintro a c rfl rfl
 refine⟨_,(ac (cv (pv 0) (pv 1) rfl)
   (ae (cv (pv 0) (pv 2) rfl))),?_⟩
 refine pP _ rfl _ rfl p _ dx ([]) rfl hp T.fM.cl (T.fM.no _ ()) (by show 0<1000;decide) ?_
 refine pP _ rfl _ rfl p _ dx _ rfl af T.fM.cl (T.fM.no _ ()) (by show 1<1000;decide) ?_
 exact k _ af fun b o e hb=>by rw [ak hb,ak hb];exact e
def yf (T:Tx K mg):Sp:=fun vs H Q _=>∃(a:Addr) (f:Nat×Nat) (x:Nat),vs= [.ref a,.int x]∧pY T H a f∧Lc.N4 f∧Q (.int (Lc.lG f x:Nat)) H
theorem gu (T:Tx K mg):sP mg P w base T.fE 1 (yf T):=by
 refine T.fE.okA x8 ?_
 rintro _ A _ s H _ Q E hr
 refine CZ ?_
 rintro a f x rfl U1 nf k
 obtain⟨dx,h1⟩:=U1
 refine⟨_,(ae (aj (aB wn (aB b7 (aB aJ (ao (pv 0) rfl) (pv 1)) (ao (pv 0) rfl)) (fk T.uU)))),?_⟩
 refine aM _ rfl a _ dx _ _ rfl h1 T.fM.cl (T.fM.no _ ()) rfl (eu _ rfl _ _ rfl rfl (oU (by have:=nf.1;omega) (by have h:=nf.1;unfold Vbdeab.P at h;omega)) ?_)
 refine aM _ rfl a _ dx _ _ rfl h1 T.fM.cl (T.fM.no _ ()) rfl (bV _ _ rfl rfl (bR _ _ rfl rfl (by show(0:Int)<18446744073709551616;decide) ?_))
 have e:=LU f x
 show Q (.int _) H
 rw [e]
 exact k
def CH (T:Tx K mg):Sp:=fun vs H Q _=>∃(a b:Addr) (f g:Nat×Nat),vs= [.ref a,.ref b]∧pY T H a f∧pY T H b g∧Lc.N4 f∧Lc.N4 g∧∀(x:Addr) (H':Hp),pY T H' x (Lc.Dr f g)→aC H H'→Q (.ref x) H'
theorem mx (T:Tx K mg):sP mg P w base T.lE 3 (CH T):=by
 refine T.lE.okA Cp ?_
 rintro _ A _ s H _ Q E hr
 refine MV ?_
 rintro a b f g rfl U1 U2 nf ng k
 obtain⟨dx,h1⟩:=U1
 obtain⟨dy,h2⟩:=U2
 refine⟨_,(ae (aj (Ax T.jn (jE T) hr (ab (aB wn (aB aJ (ao (pv 0) rfl) (ao (pv 1) rfl)) (fk T.uU)) (ab (zN (pv 1) T.fE (gu T) hr (ab (ao (pv 0) rfl) ad)) ad))))),?_⟩
 refine aM _ rfl a _ dx _ _ rfl h1 T.fM.cl (T.fM.no _ ()) rfl (aM _ rfl b _ dy _ _ rfl h2 T.fM.cl (T.fM.no _ ()) rfl (bR _ _ rfl rfl (oU (by have:=nf.1;omega) (by have h:=nf.1;unfold Vbdeab.P at h;omega)) ?_))
 refine bR _ _ rfl rfl (by show(0:Int)<18446744073709551616;decide) ?_
 refine cP _ rfl b dy _ rfl h2 rfl (aM _ rfl a _ dx _ _ rfl h1 T.fM.cl (T.fM.no _ ()) rfl (bY b g f.2 rfl ⟨dy,h2⟩ ng ?_))
 intro x dx' nx nd _
 refine dh nx nd (fun H2 e2 s2=>k x H2 ⟨dx',e2⟩ s2) (cK (f.1*g.1%Vbdeab.P) (Lc.lG g f.2) ?_ rfl)
 exact cA (fun z=> [V.int z,V.int ((Lc.lG g f.2:Nat):Int)]) (Gu f.1 g.1)
def FB (T:Tx K mg):Sp:=fun vs H Q _=>∃steps:Int,vs= [.int steps]∧∀(x:Addr) (H':Hp),pY T H' x (Lc.pw (steps%18446744073709551616).toNat)→aC H H'→Q (.ref x) H'
theorem xF (T:Tx K mg):dO P w base T.ve 4 (FB T):=by
 refine T.ve.okA fJ ?_
 rintro _ A _ s H _ Q E hr
 refine a4 ?_
 rintro steps rfl k
 refine⟨_,(ac (aZ 1 fJ.nd (aB wn (pv 0) (fk T.uU)))
   (ac (aZ 2 fJ.nd (Ax T.jn (jE T) hr (ab am (ab am ad))))
   (ac (aZ 3 fJ.nd (Ax T.jn (jE T) hr (ab (fk T.Dk) (ab (fk T.zX) ad))))
   (ac (lq cM (aR vD (pv 1) am (aY _)) (ac (aT (aR rY (aB wn (pv 1) am) am (aY _)) (ae (aZ 2 fJ.nd (zN (pv 2) T.lE (mx T) hr (ab (pv 3) ad)))) aG)
   (ac (aZ 3 fJ.nd (zN (pv 3) T.lE (mx T) hr (ab (pv 3) ad)))
   (ae (aZ 1 fJ.nd (aB cD (pv 1) am))))))
   (ae (aj (pv 2))))))),?_⟩
 refine eu _ rfl _ _ rfl rfl (by show(0:Int)<18446744073709551616;decide) ?_
 intro a dxa na nda _
 refine dh na nda (fun H1 ha s1=>?_) (cK 1 0 rfl rfl)
 intro b dxb nb ndb _
 refine dh nb ndb (fun H2 hb s2=>?_) (cK Vbdeab.A Vbdeab.C rfl rfl)
 refine⟨fun m σ H'=>∃(l p q:Nat) (x y:Addr),m=l∧σ= [some (.int steps),some (.int l),some (.ref x),some (.ref y)]∧pY T H' x (Lc.pw p)∧pY T H' y (Lc.pw q)∧p+l*q=(steps%18446744073709551616).toNat∧aC H H',⟨(steps%18446744073709551616).toNat,?_⟩,?_⟩
 ·refine iK (steps%18446744073709551616).toNat 0 1 a b rfl ?_ ⟨dxa,s2 _ _ ha⟩ ⟨dxb,?_⟩ ⋯ (s1.trans s2)
  ·rw [cE (Int.emod_nonneg _ ())]
   rfl
  ·rw [Lc.Mw]
   exact hb
 ·rintro l σ H'
  refine FL ?_
  rintro _ p q x y rfl rfl U1 U2 e sm
  obtain⟨dx,hx⟩:=U1
  obtain⟨dy,hy⟩:=U2
  refine lA _ rfl _ _ rfl rfl _ rfl (aX (fun hl=>⟨_,fun _ _ z=>z,?_⟩) (fun hl=>?_))
  ·have hl':0<l:=by have:=bn hl;omega
   refine eu _ rfl _ _ rfl rfl (by show(0:Int)<2;decide) (dt rfl _ rfl (aX (fun ho=>?_) (fun ho=>?_)))
   ·have ho':l%2=1:=by have:=V.int.inj (bn ho);omega
    refine cP _ rfl x dx _ rfl hx rfl (gP _ rfl x y _ _ rfl ⟨dx,hx⟩ ⟨dy,hy⟩ (Lc.mE _) (Lc.mE _) fun x2 H2 hx2 sm2=>?_)
    refine cP _ rfl y dy _ rfl (sm2 _ _ hy) rfl (gP _ rfl y y _ _ rfl ⟨dy,sm2 _ _ hy⟩ ⟨dy,sm2 _ _ hy⟩ (Lc.mE _) (Lc.mE _) fun y2 H3 hy2 sm3=>?_)
    refine eu _ rfl _ _ rfl rfl ⟨(),by decide+kernel⟩ ?_
    obtain⟨e1,e2⟩:=Lc.LX (a:=p) (b:=q) ho'
    rw [e1] at hx2
    rw [←Lc.ow] at hy2
    obtain⟨dx2,hx2⟩:=hx2
    exact aM (l /2) ⋯ (l /2) (p+q) (q+q) x2 y2 rfl rfl ⟨dx2,sm3 _ _ hx2⟩ hy2 (by rw [e2];exact e) ((sm.trans sm2).trans sm3)
   ·have ho':l%2=0:=by
     have:¬((l:Int)%2=1):=fun z=>ho (aE (cA V.int z))
     omega
    refine cP _ rfl y dy _ rfl hy rfl (gP _ rfl y y _ _ rfl ⟨dy,hy⟩ ⟨dy,hy⟩ (Lc.mE _) (Lc.mE _) fun y2 H3 hy2 sm3=>?_)
    refine eu _ rfl _ _ rfl rfl ⟨(),by decide+kernel⟩ ?_
    rw [←Lc.ow] at hy2
    exact aM (l /2) ⋯ (l /2) p (q+q) x y2 rfl rfl ⟨dx,sm3 _ _ hx⟩ hy2 (by rw [Lc.Ky ho'];exact e) (sm.trans sm3)
  ·have hl':l=0:=by
    have:¬((0:Int)<(l:Int)):=fun z=>hl (aE z)
    omega
   subst hl'
   refine⟨_,rfl,?_⟩
   rw [Nat.zero_mul,lW] at e
   rw [←e] at k
   exact k x H' ⟨dx,hx⟩ sm
theorem pZ (a b:Nat):Builtin.bitAnd (a:Int) (b:Int)=((a &&& b:Nat):Int):=by
 rfl
def DH (T:Tx K mg):Sp:=fun vs H Q _=>∃x y:Nat,vs= [.int x,.int y]∧x<Vbdeab.P∧y<Vbdeab.P∧∀H':Hp,aC H H'→Q (.int (Vbdeab.far x y:Nat)) H'
theorem vC (T:Tx K mg):dO P w base T.rH 4 (DH T):=by
 refine T.rH.okA dL ?_
 rintro _ A _ s H _ Q E hr
 refine tp ?_
 rintro x y rfl hx hy k
 refine⟨_,(ac (aZ 2 dL.nd (pv 0))
   (ac (aZ 3 dL.nd (Ax T.jn (jE T) hr (ab (fk T.Dk) (ab (fk T.zX) ad))))
   (ac (aZ 4 dL.nd am)
   (ac (aZ 5 dL.nd am)
   (ac (lq cM (aR JH (pv 2) (pv 1) (aY _)) (ac (aT (aR JH (aB Mg (pv 2) (pv 4)) (aB Mg (pv 1) (pv 4)) (aY _)) (ac (aZ 2 dL.nd (zN (pv 3) T.fE (gu T) hr (ab (pv 2) ad)))
   (ae (ou (i:=5) dL.nd rfl (Or.inl rfl) (pv 4) mw))) aG)
   (ac (aZ 3 dL.nd (zN (pv 3) T.lE (mx T) hr (ab (pv 3) ad)))
   (ae (aZ 4 dL.nd (aB aJ (pv 4) am))))))
   (ae (aj (pv 5)))))))),?_⟩
 refine⟨_,rfl,?_⟩
 intro a dxa na nda _
 refine dh na nda (fun H1 ha s1=>?_) (cK Vbdeab.A Vbdeab.C rfl rfl)
 refine⟨fun m σ H'=>∃(j st n:Nat) (b:Addr),m+j=64∧σ= [some (.int x),some (.int y),some (.int st),some (.ref b),some (.int (2 ^ j:Nat)),some (.int n)]∧pY T H' b (Lc.sq j)∧st<Vbdeab.P∧st%2 ^ j=y%2 ^ j∧Vbdeab.far x y=n+farFrom m j st y∧aC H H',⟨64,?_⟩,?_⟩
 ·exact j4 0 x 0 a rfl rfl ⟨dxa,ha⟩ hx (fi (by rw [Nat.pow_zero,Nat.mod_one,Nat.mod_one]) (by rw [i7];rfl) s1)
 ·rintro m σ H'
  refine MW ?_
  rintro j st n b hm rfl U1 hst hlow hfar sm
  obtain⟨db,hb⟩:=U1
  refine bJ _ rfl (eQ _ rfl rfl _ rfl (aX (fun hl=>⟨_,fun _ _ z=>z,?_⟩) (fun hl=>?_)))
  ·have hne:st≠y:=fun z=>by rw [z] at hl;simp at hl
   have hj:j<64:=by
    rcases sO j 64 with q | q
    ·exact q
    ·have:j=64:=by omega
     subst this
     exact absurd (Lc.Lu hst hy hlow) hne
   obtain⟨m',rfl⟩:∃m',m=m'+1:=⟨m - 1,⋯⟩
   have hnr:Lc.N4 (Lc.sq j):=by rw [Lc.JQ];exact Lc.mE _
   have e2:(((2 ^ j:Nat):Int))*2=((2 ^ (j+1):Nat):Int):=by rw [mV,b9];rfl
   refine eY _ rfl _ rfl _ _ rfl rfl (eY _ rfl _ rfl _ _ rfl rfl (dt rfl _ rfl (aX (fun ho=>?_) (fun ho=>?_))))
   ·have hbit:¬(st%2 ^ (j+1)=y%2 ^ (j+1)):=fun z=>by
     have q:=(Lc.Jk hlow).mpr z
     have q2:V.int (Builtin.bitAnd (st:Int) ((2 ^ j:Nat):Int))=V.int (Builtin.bitAnd (y:Int) ((2 ^ j:Nat):Int)):=by rw [pZ,pZ,q]
     rw [aE q2] at ho
     cases ho
    refine cP _ rfl b db _ rfl hb rfl (cP _ rfl b _ st rfl ⟨db,hb⟩ hnr ?_)
    refine eY _ rfl _ rfl _ _ rfl rfl ?_
    refine cP _ rfl b db _ rfl hb rfl (gP _ rfl b b _ _ rfl ⟨db,hb⟩ ⟨db,hb⟩ hnr hnr fun b2 H3 hb2 sm3=>?_)
    refine eu _ rfl _ _ rfl rfl (Gv () ()) ?_
    refine bQ m' ⋯ (j+1) (Lc.lG (Lc.sq j) st) (n+2 ^ j) b2 ⋯ ?_ hb2 (Lc.EZ _ _) (fi (Lc.NR hj hlow hbit) ?_ (sm.trans sm3))
    ·rw [←e2,pT]
     rfl
    ·rw [hfar,Lc.OC hj hbit,yA]
   ·have hbit:st%2 ^ (j+1)=y%2 ^ (j+1):=by
     apply (Lc.Jk hlow).mp
     by_cases q2:V.int (Builtin.bitAnd (st:Int) ((2 ^ j:Nat):Int))=V.int (Builtin.bitAnd (y:Int) ((2 ^ j:Nat):Int))
     ·have q3:=V.int.inj q2
      rw [pZ,pZ] at q3
      exact Int.ofNat.inj q3
     ·exact absurd (by show(!decide _)=true;rw [br q2];rfl) ho
    refine cP _ rfl b db _ rfl hb rfl (gP _ rfl b b _ _ rfl ⟨db,hb⟩ ⟨db,hb⟩ hnr hnr fun b2 H3 hb2 sm3=>?_)
    refine eu _ rfl _ _ rfl rfl (Gv () ()) ?_
    refine bQ m' ⋯ (j+1) st n b2 ⋯ ?_ hb2 hst (fi hbit ?_ (sm.trans sm3))
    ·rw [←e2]
     rfl
    ·rw [hfar,Lc.OA hbit]
  ·have heq:st=y:=by
    by_cases q:st=y
    ·exact q
    ·have q':¬V.int (st:Int)=V.int (y:Int):=fun z=>q (Int.ofNat.inj (V.int.inj z))
     exact absurd (by rw [br q'];rfl) hl
   subst heq
   refine⟨_,rfl,?_⟩
   rw [Lc.Gc,lW] at hfar
   rw [hfar] at k
   exact k H' sm
def Hg (T:Tx K mg):Sp:=fun vs H Q _=>∃n a b:Int,vs= [.int n,.int a,.int b]∧Q (.bl (decide (a≤n∧n≤b))) H
theorem a8 (T:Tx K mg):dO P w base T.bW 1 (Hg T):=by
 refine T.bW.okA G5 ?_
 rintro _ A _ s H _ Q E hr
 refine tq ?_
 rintro n a b rfl k
 refine⟨_,(ae (aj (Mn Oc Oc (pv 1) (pv 0) (pv 2)))),?_⟩
 refine bJ _ rfl (lA _ rfl _ _ rfl rfl _ rfl (aX (fun h1=>(cy _ rfl _ _ rfl rfl ?_)) (fun h1=>?_)))
 ·have h1':a≤n:=bn h1
  have e:decide (a≤n∧n≤b)=decide (n≤b):=by by_cases q:n≤b<;>simp [q,h1']
  rw [e] at k
  exact k
 ·have h1':¬a≤n:=fun z=>h1 (aE z)
  have e:decide (a≤n∧n≤b)=false:=br fun z=>h1' z.1
  rw [e] at k
  exact k
def CN (T:Tx K mg):Sp:=fun vs H Q _=>∃n:Int,vs= [.int n]∧Q (.bl (decide (0≤n∧n≤63))) H
theorem a6 (T:Tx K mg):dO P w base T.bB 2 (CN T):=by
 refine T.bB.okA Cw ?_
 rintro _ A _ s H _ Q E hr
 refine a4 ?_
 rintro n rfl k
 refine⟨_,(ae (aj (bj T.bW (a8 T) hr (ab (pv 0) (ab am (ab (aB cb (fk T.zW) am) ad)))))),?_⟩
 exact cy _ rfl _ _ rfl rfl ⟨n,(cK 0 63 rfl k)⟩
def DK (T:Tx K mg):Sp:=fun vs H Q _=>∃n:Int,vs= [.int n]∧Q (.bl (decide (0≤n∧n≤18446744073709551615))) H
theorem fV (T:Tx K mg):dO P w base T.gW 2 (DK T):=by
 refine T.gW.okA DC ?_
 rintro _ A _ s H _ Q E hr
 refine a4 ?_
 rintro n rfl k
 refine⟨_,(ae (aj (bj T.bW (a8 T) hr (ab (pv 0) (ab am (ab (aB cb (fk T.uU) am) ad)))))),?_⟩
 exact cy _ rfl _ _ rfl rfl ⟨n,(cK 0 _ rfl k)⟩
def CM (T:Tx K mg):Sp:=fun vs H Q _=>∃n:Int,vs= [.int n]∧Q (.bl (decide (0≤n∧n≤1000))) H
theorem gD (T:Tx K mg):dO P w base T.gU 2 (CM T):=by
 refine T.gU.okA Cv ?_
 rintro _ A _ s H _ Q E hr
 refine a4 ?_
 rintro n rfl k
 refine⟨_,(ae (aj (bj T.bW (a8 T) hr (ab (pv 0) (ab am (ab (fk T.HN) ad)))))),?_⟩
 exact fB _ rfl n 0 (bJ _ rfl k)
def DI (T:Tx K mg):Sp:=fun vs H Q _=>∃n:Int,vs= [.int n]∧Q (.bl (decide (-1000000000000000000≤n∧n≤1000000000000000000))) H
theorem fU (T:Tx K mg):dO P w base T.gT 2 (DI T):=by
 refine T.gT.okA DA ?_
 rintro _ A _ s H _ Q E hr
 refine a4 ?_
 rintro n rfl k
 refine⟨_,(ae (aj (bj T.bW (a8 T) hr (ab (pv 0) (ab (JJ FH (fk T.kY)) (ab (fk T.kY) ad)))))),?_⟩
 exact bJ _ rfl (fB _ rfl n (-1000000000000000000) (bJ _ rfl k))
theorem pL:∀{l:List Int},(∀x∈l,0≤x)→l.sum=((Vbdeab.sum (l.map Int.toNat):Nat):Int)
 | [],_=>rfl
 | a::r,h=>by
  rw [AC,pL fun x hx=>h x (dX _ hx),e9,Ch.sum_cons,pT,cE (h a fD)]
theorem jR {l:List Int} (h:(weights l).isSome=true):(∀x∈l,0≤x)∧weights l=some (l.map Int.toNat)∧1≤l.length∧l.length≤64∧1≤Vbdeab.sum (l.map Int.toNat)∧Vbdeab.sum (l.map Int.toNat)≤10 ^ 40:=by
 unfold weights at h⊢
 split at h
 ·rename_i hc
  obtain⟨h1,h2⟩:=hc
  rw [if_pos ⟨h1,h2⟩]
  unfold weightsOk LIMIT at h2
  simp only [yx,fC,aD] at h2
  exact fi (fun x hx=>bn (Az.mp h1 x hx)) rfl (b8 h2.1.1.1 h2.1.1.2 h2.1.2 h2.2)
 ·cases h
theorem rq {l:List Int} (h:¬((∀x∈l,0≤x)∧1≤l.length∧l.length≤64∧1≤l.sum∧l.sum≤10000000000000000000000000000000000000000)):(weights l).isSome=false:=by
 cases e:(weights l).isSome with
 | false=>rfl
 | true=>
  refine rA (fun h1 _ h2 h3 h4 h5=>?_) (jR e)
  refine absurd ⟨h1,(b8 h2 h3 ?_ ?_)⟩ h
  ·rw [pL h1];omega
  ·rw [pL h1]
   have:((Vbdeab.sum (l.map Int.toNat):Nat):Int)≤((10 ^ 40:Nat):Int):=Int.ofNat_le.mpr h5
   exact this
theorem IW {l:List Int} (h:(∀x∈l,0≤x)∧1≤l.length∧l.length≤64∧1≤l.sum∧l.sum≤10000000000000000000000000000000000000000):(weights l).isSome=true:=by
 obtain⟨h1,h2,h3,h4,h5⟩:=h
 unfold weights
 rw [pL h1] at h4 h5
 rw [if_pos]
 ·rfl
 ·refine⟨Az.mpr fun x hx=>aE (h1 x hx),?_⟩
  unfold weightsOk LIMIT
  simp only [yx,fC,aD]
  exact⟨⟨⟨h2,h3⟩,⋯⟩,Int.ofNat_le.mp (show((Vbdeab.sum (l.map Int.toNat):Nat):Int)≤((10 ^ 40:Nat):Int) from h5)⟩
def zu (T:Tx K mg):Sp:=fun vs H Q _=>∃(a:Addr) (ns:List Int),vs= [.ref a]∧a5 K H a (ns.map V.int)∧Q (.bl (weights ns).isSome) H
theorem kF (T:Tx K mg):dO P w base T.iL 2 (zu T):=by
 refine T.iL.okA zf ?_
 rintro _ A _ s H _ Q E hr
 refine yw ?_
 rintro a ns rfl hs k
 refine⟨_,(ac (aT (aV (aS (bj T.bW (a8 T) hr (ab (a9 aW (by rfl) T.gx eA (ab (pv 0) ad)) (ab am (ab (fk T.Dm) ad)))))) (ae (aj Od)) aG)
   (ac (aT (aR ll (a9 (Oy rfl) (by rfl) T.MZ (by rfl) (ab (pv 0) ad)) am (aY _)) (ae (aj Od)) aG)
   (ae (aj (bj T.bW (a8 T) hr (ab (a9 (EQ rfl) (by rfl) T.J4 (by rfl) (ab (pv 0) ad)) (ab am (ab (fk T.Dl) ad)))))))),?_⟩
 refine cy _ rfl a _ rfl (.inl hs) (oE _ _ (bD _ rfl _ rfl (aX (fun h1=>?_) (fun h1=>?_))))
 ·rw [rq fun z=>by rw [aD] at h1;simp at h1;omega] at k
  exact k
 ·have hl:1≤ns.length∧ns.length≤64:=by
   rw [aD] at h1
   simp at h1
   omega
  refine eu _ rfl a ns rfl hs hl.1 fun m hm hle=>⟨_,(eQ _ rfl rfl _ rfl (aX (fun h2=>?_) (fun h2=>?_)))⟩
  ·have h2':m<0:=bn h2
   rw [rq fun z=>by have:=z.1 m hm;omega] at k
   exact k
  ·have h2':0≤m:=Int.not_lt.mp fun z=>h2 (aE z)
   have hnn:∀x∈ns,0≤x:=fun x hx=>Int.le_trans h2' (hle x hx)
   refine cy _ rfl a ns rfl hs ⟨_,(cK _ _ rfl ?_)⟩
   by_cases q:1≤ns.sum∧ns.sum≤10000000000000000000000000000000000000000
   ·rw [IW ⟨hnn,(b8 hl.1 hl.2 q.1 q.2)⟩] at k
    rw [aE q]
    exact k
   ·rw [rq fun z=>q ⟨z.2.2.2.1,z.2.2.2.2⟩] at k
    rw [br q]
    exact k
def Sz (m:Nat) (x:Int):Prop:=x.natAbs<2 ^ m
theorem Sz.mono {m n:Nat} {x:Int} (h:Sz m x) (k:m≤n):Sz n x:=gR h (Nat.pow_le_pow_right () k)
theorem Sz.mul {m n k:Nat} {x y:Int} (h:Sz m x) (g:Sz n y) (e:m+n≤k:=by decide):Sz k (x*y):=by
 refine Sz.mono (m:=m+n) ?_ e
 show(x*y).natAbs<2 ^ (m+n)
 rw [Int.natAbs_mul,Nat.pow_add]
 exact Nat.mul_lt_mul'' h g
theorem Sz.add {m n k:Nat} {x y:Int} (h:Sz m x) (g:Sz n y) (e1:m+1≤k:=by decide) (e2:n+1≤k:=by decide):Sz k (x+y):=by
 have h1:x.natAbs<2 ^ (k - 1):=h.mono ⋯
 have h2:y.natAbs<2 ^ (k - 1):=g.mono ⋯
 show(x+y).natAbs<2 ^ k
 have e:2 ^ k=2 ^ (k - 1)*2:=by rw [←mV];congr 1;omega
 rw [e]
 omega
theorem Sz.neg {m:Nat} {x:Int} (h:Sz m x):Sz m (-x):=by show(-x).natAbs<_;rw [Int.natAbs_neg];exact h
theorem Sz.sub {m n k:Nat} {x y:Int} (h:Sz m x) (g:Sz n y) (e1:m+1≤k:=by decide) (e2:n+1≤k:=by decide):Sz k (x - y):=by
 rw [Int.sub_eq_add_neg]
 exact h.add g.neg e1 e2
theorem Sz.le {m:Nat} {x y:Int} (h:Sz m y) (e:x.natAbs≤y.natAbs):Sz m x:=oe e h
theorem Sz.ediv {m:Nat} {x y:Int} (h:Sz m x) (hy:0<y):Sz m (x /y):=by
 refine h.le ?_
 have k1:=Int.ediv_mul_le x (show y≠0 by omega)
 have k2:=J1 x hy
 generalize x /y=d at*
 by_cases hd:0≤d
 ·have:d*1≤d*y:=C4 ⋯ hd
  omega
 ·have:(d+1)*y≤(d+1)*1:=MX ⋯ ⋯
  omega
theorem Sz.emod {m:Nat} {x y:Int} (h:Sz m y) (hy:0<y):Sz m (x%y):=by
 refine h.le ?_
 have:=Int.emod_nonneg x (show y≠0 by omega)
 have:=Int.emod_lt_of_pos x hy
 omega
theorem bE {m n:Nat} {x y:Int} (h:Sz m x) (g:Sz n y) (e:m+n≤134217728:=by decide):IntMulOk x y:= .of_le (PySem.intBits_le_iff.mpr h) (PySem.intBits_le_iff.mpr g) e
theorem qd {x y:Int} (h:0<y) (g:Sz 9000 y):N1 x y:=⟨h,(Nat.log2_lt ⋯).mpr g⟩
def Rn (n d:Int):List (Str×V):= [("top",.int n),("bottom",.int d)]
def fI (T:Tx K mg) (H:Hp) (a:Addr) (n d:Int):Prop:=∃dx,H a=some (.ins T.aA.C dx (Rn n d))
def j2 (T:Tx K mg) (H:Hp) (a:Addr) (q:Vbdeab.Q):Prop:=fI T H a q.num (q.den:Int)
def ib (H H':Hp):Prop:=∀b C dx fs,H b=some (.ins C dx fs)→H' b=some (.ins C dx fs)
theorem aC.i {H H':Hp} (s:aC H H'):ib H H':=fun b C dx fs e=>s _ _ e
theorem ib.lst {H:Hp} {D:Addr} {xs:List V} {o:HO} (h:H D=some (.lst xs)):ib H (bT H D o):=fun b C dx fs e=>by
 rw [ak (bg e h (by intro z;cases z))]
 exact e
theorem fI.si {T:Tx K mg} {H H':Hp} {a:Addr} {n d:Int} (h:fI T H a n d) (s:ib H H'):fI T H' a n d:=let ⟨dx,e⟩:=h;⟨dx,s _ _ _ _ e⟩
theorem j2.si {T:Tx K mg} {H H':Hp} {a:Addr} {q:Vbdeab.Q} (h:j2 T H a q) (s:ib H H'):j2 T H' a q:=fI.si h s
theorem fI.same {T:Tx K mg} {H H':Hp} {a:Addr} {n d:Int} (h:fI T H a n d) (s:aC H H'):fI T H' a n d:=let ⟨dx,e⟩:=h;⟨dx,s _ _ e⟩
theorem j2.same {T:Tx K mg} {H H':Hp} {a:Addr} {q:Vbdeab.Q} (h:j2 T H a q) (s:aC H H'):j2 T H' a q:=fI.same h s
def OQ (T:Tx K mg) (H:Hp) (v:V) (o:Option Vbdeab.Q):Prop:=match o with
 | none=>v= .non
 | some q=>∃x,v= .ref x∧j2 T H x q
theorem OQ.same {T:Tx K mg} {H H':Hp} {v:V} {o:Option Vbdeab.Q} (h:OQ T H v o) (s:aC H H'):OQ T H' v o:=by
 cases o with
 | none=>exact h
 | some q=>refine a4 (fun x e h=>?_) h;exact⟨x,e,h.same s⟩
theorem oV {p:Prop} [Decidable p] (h:(!decide p)=true):¬p:=fun q=>by rw [aE q] at h;cases h
theorem oW {p:Prop} [Decidable p] (h:¬(!decide p)=true):p:=by
 by_cases q:p
 ·exact q
 ·exact absurd (by rw [br q];rfl) h
theorem aC.refl' (H:Hp):aC H H:=fun _ _ e=>e
def AZ (T:Tx K mg):Sp:=Hb T.aA.C (fun args fs=>∃n d:Int,args= [.int n,.int d]∧fs=Rn n d)
theorem bb (T:Tx K mg):sP mg P w base T.bp 1 (AZ T):=by
 refine T.bp.okA AS ?_ (by rintro _ _ _ _ ⟨p,dx,_,_,rfl,⟨n,d,rfl,rfl⟩,hp,k⟩;rfl)
 rintro _ A _ s H _ Q E hr
 refine oF ?_
 rintro p dx _ _ rfl U1 hp k
 refine rB ?_ U1
 rintro n d rfl rfl
 refine⟨_,(ac (cv (pv 0) (pv 1) rfl)
   (ae (cv (pv 0) (pv 2) rfl))),?_⟩
 refine pP _ rfl _ rfl p _ dx _ rfl hp T.aA.cl (T.aA.no _ ()) (by show 0<1000;decide) ?_
 refine pP _ rfl _ rfl p _ dx _ rfl af T.aA.cl (T.aA.no _ ()) (by show 1<1000;decide) ?_
 exact k _ af fun b o e hb=>by rw [ak hb,ak hb];exact e
def vp (T:Tx K mg):Sp:=fun vs H Q _=>∃a b:Int,vs= [.int a,.int b]∧0<b∧Q (.int (Nat.gcd a.natAbs b.toNat:Nat)) H
theorem dm (T:Tx K mg):dO P w base T.cW 1 (vp T):=by
 refine T.cW.okA dn ?_
 rintro _ A _ s H _ Q E hr
 refine yw ?_
 rintro a b rfl hb k
 refine⟨_,(ac (aZ 2 dn.nd (pv 0))
   (ac (aZ 3 dn.nd (pv 1))
   (ac (lq cM (aR vD (pv 3) am (aY _)) (ac (aZ 4 dn.nd (aB wn (pv 2) (pv 3)))
   (ac (aZ 2 dn.nd (pv 3))
   (ae (aZ 3 dn.nd (pv 4))))))
   (ae (aj (pv 2)))))),?_⟩
 refine bd _ rfl _ rfl (fun m σ H'=>∃(l s:Int) (v:Option V),m=s.toNat∧0≤s∧σ= [some (.int a),some (.int b),some (.int l),some (.int s),v]∧Nat.gcd l.natAbs s.natAbs=Nat.gcd a.natAbs b.toNat∧(s=0→0≤l)∧H'=H) (j5 b.toNat a b none rfl ⋯ rfl (by rw [show b.natAbs=b.toNat by omega]) (fun z=>by omega) rfl) ?_
 rintro m σ H'
 refine FK ?_
 rintro l s v rfl hs rfl hg hl rfl
 refine lA _ rfl _ _ rfl rfl _ rfl (aX (fun ht=>⟨_,fun _ _ z=>z,?_⟩) (fun ht=>?_))
 ·have hs':0<s:=bn ht
  refine bJ _ rfl (eu _ rfl _ _ rfl rfl hs' ?_)
  refine bD _ rfl _ rfl ?_
  have h1:=Int.emod_nonneg l (show s≠0 by omega)
  have h2:=Int.emod_lt_of_pos l hs'
  exact cP (l%s).toNat ⋯ s (l%s) _ rfl h1 rfl (fi (by rw [←hg];exact Kd.LL hs') (fun _=>hs) rfl)
 ·have hs':¬0<s:=fun z=>ht (aE z)
  have e:s=0:=by omega
  subst e
  refine⟨_,rfl,?_⟩
  have h0:=hl rfl
  rw [←hg] at k
  have e2:((Nat.gcd l.natAbs (0:Int).natAbs:Nat):Int)=l:=by rw [show(0:Int).natAbs=0 from rfl,Nat.gcd_zero_right];omega
  rw [e2] at k
  exact k
theorem dI {n d:Int} (h:0<d):(0:Int)<((Nat.gcd n.natAbs d.toNat:Nat):Int):=by
 have:=HL n.natAbs (n:=d.toNat) ⋯
 omega
theorem lh {n d:Int} {m:Nat} (h:0<d) (z:Sz m d):Sz m ((Nat.gcd n.natAbs d.toNat:Nat):Int):=by
 refine z.le ?_
 have:=Nat.gcd_le_right n.natAbs (n:=d.toNat) ⋯
 omega
def yh (T:Tx K mg):Sp:=fun vs H Q _=>∃(a:Addr) (n d:Int),vs= [.ref a]∧fI T H a n d∧0<d∧Sz 9000 d∧∀(x:Addr) (H':Hp),j2 T H' x (Vbdeab.mkQ n d.toNat)→aC H H'→Q (.ref x) H'
theorem eW (T:Tx K mg):sP mg P w base T.eM 3 (yh T):=by
 refine T.eM.okA nV ?_
 rintro _ A _ s H _ Q E hr
 refine DR ?_
 rintro a n d rfl U1 hd hz k
 obtain⟨dx,h1⟩:=U1
 refine⟨_,(ac (aZ 1 nV.nd (bj T.cW (dm T) hr (ab (ao (pv 0) rfl) (ab (ao (pv 0) rfl) ad))))
   (ae (aj (Ax T.bp (bb T) hr (ab (aB cD (ao (pv 0) rfl) (pv 1)) (ab (aB cD (ao (pv 0) rfl) (pv 1)) ad)))))),?_⟩
 refine aM _ rfl a _ dx _ _ rfl h1 T.aA.cl (T.aA.no _ ()) rfl (aM _ rfl a _ dx _ _ rfl h1 T.aA.cl (T.aA.no _ ()) rfl (bV n d rfl hd ?_))
 have hg:=dI (n:=n) hd
 have hgz:=lh (n:=n) hd hz
 refine aM _ rfl a _ dx _ _ rfl h1 T.aA.cl (T.aA.no _ ()) rfl (eu _ rfl _ _ rfl rfl (qd hg hgz) (aM _ rfl a _ dx _ _ rfl h1 T.aA.cl (T.aA.no _ ()) rfl (eu _ rfl _ _ rfl rfl (qd hg hgz) ?_)))
 intro x dx' nx nd _
 refine dh nx nd (fun H2 e2 s2=>k x H2 ⟨dx',?_⟩ s2) (cK _ _ rfl rfl)
 rw [e2,Kd.E4 hd,Kd.E3 hd]
def zn (T:Tx K mg):Sp:=fun vs H Q _=>∃(a b:Addr) (n d m e:Int),vs= [.ref a,.ref b]∧fI T H a n d∧fI T H b m e∧IntMulOk n m∧IntMulOk d e∧∀(x:Addr) (H':Hp),fI T H' x (n*m) (d*e)→aC H H'→Q (.ref x) H'
theorem oX (T:Tx K mg):sP mg P w base T.k6 3 (zn T):=by
 refine T.k6.okA zb ?_
 rintro _ A _ s H _ Q E hr U
 obtain⟨a,b,n,d,m,e,rfl,U1,U2,m1,m2,k⟩:=U
 obtain⟨dx,h1⟩:=U1
 obtain⟨dy,h2⟩:=U2
 refine⟨_,(ae (aj (Ax T.bp (bb T) hr (ab (aB aJ (ao (pv 0) rfl) (ao (pv 1) rfl)) (ab (aB aJ (ao (pv 0) rfl) (ao (pv 1) rfl)) ad))))),?_⟩
 refine aM _ rfl a _ dx _ _ rfl h1 T.aA.cl (T.aA.no _ ()) rfl (aM _ rfl b _ dy _ _ rfl h2 T.aA.cl (T.aA.no _ ()) rfl (bR _ _ rfl rfl m1 (aM _ rfl a _ dx _ _ rfl h1 T.aA.cl (T.aA.no _ ()) rfl (aM _ rfl b _ dy _ _ rfl h2 T.aA.cl (T.aA.no _ ()) rfl (bR _ _ rfl rfl m2 ?_)))))
 intro x dx' nx nd _
 exact dh nx nd (fun H2 e2 s2=>k x H2 ⟨dx',e2⟩ s2) (cK _ _ rfl rfl)
def A0 (T:Tx K mg):Sp:=fun vs H Q _=>∃(a b:Addr) (n d m e:Int),vs= [.ref a,.ref b]∧fI T H a n d∧fI T H b m e∧IntMulOk n e∧IntMulOk m d∧IntMulOk d e∧∀(x:Addr) (H':Hp),fI T H' x (n*e+m*d) (d*e)→aC H H'→Q (.ref x) H'
theorem AI (T:Tx K mg):sP mg P w base T.rD 3 (A0 T):=by
 refine T.rD.okA AT ?_
 rintro _ A _ s H _ Q E hr
 refine Bg ?_
 rintro a b n d m e rfl U1 U2 m1 m2 m3 k
 obtain⟨dx,h1⟩:=U1
 obtain⟨dy,h2⟩:=U2
 refine⟨_,(ae (aj (Ax T.bp (bb T) hr (ab (aB b7 (aB aJ (ao (pv 0) rfl) (ao (pv 1) rfl)) (aB aJ (ao (pv 1) rfl) (ao (pv 0) rfl))) (ab (aB aJ (ao (pv 0) rfl) (ao (pv 1) rfl)) ad))))),?_⟩
 refine aM _ rfl a _ dx _ _ rfl h1 T.aA.cl (T.aA.no _ ()) rfl (aM _ rfl b _ dy _ _ rfl h2 T.aA.cl (T.aA.no _ ()) rfl (bR _ _ rfl rfl m1 (aM _ rfl b _ dy _ _ rfl h2 T.aA.cl (T.aA.no _ ()) rfl (aM _ rfl a _ dx _ _ rfl h1 T.aA.cl (T.aA.no _ ()) rfl (jt _ _ rfl rfl m2 _ _ rfl rfl (aM _ rfl a _ dx _ _ rfl h1 T.aA.cl (T.aA.no _ ()) rfl (aM _ rfl b _ dy _ _ rfl h2 T.aA.cl (T.aA.no _ ()) rfl (bR _ _ rfl rfl m3 ?_))))))))
 intro x dx' nx nd _
 exact dh nx nd (fun H2 e2 s2=>k x H2 ⟨dx',e2⟩ s2) (cK _ _ rfl rfl)
def vo (T:Tx K mg):Sp:=fun vs H Q _=>∃(a b:Addr) (n d m e:Int),vs= [.ref a,.ref b]∧fI T H a n d∧fI T H b m e∧IntMulOk n e∧IntMulOk m d∧Q (.bl (decide (n*e<m*d))) H
theorem fv (T:Tx K mg):sP mg P w base T.eD 1 (vo T):=by
 refine T.eD.okA vm ?_
 rintro _ A _ s H _ Q E hr U
 obtain⟨a,b,n,d,m,e,rfl,U1,U2,m1,m2,k⟩:=U
 obtain⟨dx,h1⟩:=U1
 obtain⟨dy,h2⟩:=U2
 refine⟨_,(ae (aj (Fc ll (aB aJ (ao (pv 0) rfl) (ao (pv 1) rfl)) (aB aJ (ao (pv 1) rfl) (ao (pv 0) rfl)) (aY _)))),?_⟩
 exact aM _ rfl a _ dx _ _ rfl h1 T.aA.cl (T.aA.no _ ()) rfl (aM _ rfl b _ dy _ _ rfl h2 T.aA.cl (T.aA.no _ ()) rfl (bR _ _ rfl rfl m1 (aM _ rfl b _ dy _ _ rfl h2 T.aA.cl (T.aA.no _ ()) rfl (aM _ rfl a _ dx _ _ rfl h1 T.aA.cl (T.aA.no _ ()) rfl (jt _ _ rfl rfl m2 _ _ rfl rfl k)))))
theorem EU {n d:Int} (h:1≤d):Vbdeab.fraction n d=if (-1000000000000000000≤(Vbdeab.mkQ n d.toNat).num∧(Vbdeab.mkQ n d.toNat).num≤1000000000000000000)∧¬1000000000000000000<(((Vbdeab.mkQ n d.toNat).den:Nat):Int) then some (Vbdeab.mkQ n d.toNat) else none:=by
 unfold Vbdeab.fraction
 have hp:=(Fr.Iz.mk' (n:=n) (d:=d) ⋯).pos
 have hB:Vbdeab.BIG=1000000000000000000:=rfl
 have e:(1≤d∧(Vbdeab.mkQ n d.toNat).small=true)↔((-1000000000000000000≤(Vbdeab.mkQ n d.toNat).num∧(Vbdeab.mkQ n d.toNat).num≤1000000000000000000)∧¬1000000000000000000<(((Vbdeab.mkQ n d.toNat).den:Nat):Int)):=by
  unfold Vbdeab.Q.small
  rw [yx,yx,fC,fC,fC,hB]
  omega
 by_cases c:1≤d∧(Vbdeab.mkQ n d.toNat).small=true
 ·rw [if_pos c,if_pos (e.mp c)]
 ·rw [if_neg c,if_neg fun z=>c (e.mpr z)]
def zG (T:Tx K mg):Sp:=fun vs H Q _=>∃n d:Int,vs= [.int n,.int d]∧Sz 9000 d∧∀(v:V) (H':Hp),OQ T H' v (Vbdeab.fraction n d)→aC H H'→Q v H'
theorem cr (T:Tx K mg):dO P w base T.cN 4 (zG T):=by
 refine T.cN.okA pF ?_
 rintro _ A _ s H _ Q E hr
 refine yw ?_
 rintro n d rfl hz k
 refine⟨_,(ac (aT (aR ll (pv 1) am (aY _)) (ae (aj de)) aG)
   (ac (aZ 2 pF.nd (eO (Ax T.bp (bb T) hr (ab (pv 0) (ab (pv 1) ad))) T.eM (eW T) hr))
   (ac (aT (lr (ic (aV (aS (bj T.gT (fU T) hr (ab (ao (pv 2) rfl) ad)))) (ik (aR vD (ao (pv 2) rfl) (fk T.kY) (aY _))))) (ae (aj de)) aG)
   (ae (aj (pv 2)))))),?_⟩
 refine lA _ rfl _ _ rfl rfl _ rfl (aX (fun h1=>?_) (fun h1=>?_))
 ·have h1':d<1:=bn h1
  refine k .non H ?_ (aC.refl' H)
  have e:Vbdeab.fraction n d=none:=by unfold Vbdeab.fraction;rw [if_neg fun z=>by omega]
  rw [e]
  exact rfl
 ·have h1':1≤d:=Int.not_lt.mp fun z=>h1 (aE z)
  rw [EU h1'] at k
  refine bD _ rfl _ rfl ?_
  intro x dx nx nd _
  refine dh nx nd (fun H2 e2 s2=>?_) (cK n d rfl rfl)
  refine bY x dx _ rfl e2 rfl (i5 x n d rfl ⟨dx,e2⟩ ⋯ hz fun y H3 ⟨dy,e3⟩ s3=>?_)
  have s:=s2.trans s3
  refine aM _ rfl y _ dy _ _ rfl e3 T.aA.cl (T.aA.no _ ()) rfl (bD _ rfl _ rfl (aX (fun h2=>?_) (fun h2=>?_)))
  ·rw [if_neg fun z=>oV h2 z.1] at k
   exact jC (k .non H3 rfl s)
  ·refine aM _ rfl y _ dy _ _ rfl e3 T.aA.cl (T.aA.no _ ()) rfl ⟨_,(eQ _ rfl rfl _ rfl (aX (fun h3=>?_) (fun h3=>?_)))⟩
   ·have h3':(1000000000000000000:Int)<(((Vbdeab.mkQ n d.toNat).den:Nat):Int):=bn h3
    rw [if_neg fun z=>z.2 h3'] at k
    exact k .non H3 rfl s
   ·have h3':¬(1000000000000000000:Int)<(((Vbdeab.mkQ n d.toNat).den:Nat):Int):=fun z=>h3 (aE z)
    rw [if_pos ⟨oW h2,h3'⟩] at k
    exact⟨_,rfl,k (.ref y) H3 ⟨y,rfl,⟨dy,e3⟩⟩ s⟩
def fy (l:List Int):Int:=l.foldl (fun a b=>a*b) 1
theorem iW (l:List Int) (x:Int):fy (l++ [x])=fy l*x:=by unfold fy;rw [List.foldl_append];rfl
theorem tW {m:Nat} {l:List Int} (h:∀x∈l,Sz m x):∀i,Sz (m*i+1) (fy (l.take i))
 | 0=>by show(1:Int).natAbs<_;rw [Nat.mul_zero];decide
 | i+1=>by
  have ih:=tW h i
  cases e:l[i]? with
  | none=>
   have hl:=List.getElem?_eq_none_iff.mp e
   rw [lD hl] at ih
   rw [lD ⋯]
   exact ih.mono (by rw [Nat.mul_succ];omega)
  | some x=>
   rw [Ch.bA e,iW]
   exact ih.mul (h x (eR e)) (by rw [Nat.mul_succ];omega)
theorem Ej {l:List Int} (h:∀x∈l,0<x):∀i,0<fy (l.take i)
 | 0=>by show(0:Int)<1;decide
 | i+1=>by
  have ih:=Ej h i
  cases e:l[i]? with
  | none=>
   have hl:=List.getElem?_eq_none_iff.mp e
   rw [lD hl] at ih
   rw [lD ⋯]
   exact ih
  | some x=>
   rw [Ch.bA e,iW]
   exact eZ ih (h x (eR e))
theorem l9 (l:List Int):fy (l.take l.length)=fy l:=by rw [jU]
theorem y9 (a b:List Int):fy (a++b)=fy a*fy b:=by
 unfold fy
 rw [List.foldl_append]
 generalize List.foldl (fun a b=>a*b) 1 a=x
 have:∀(l:List Int) (x y:Int),List.foldl (fun a b=>a*b) (x*y) l=x*List.foldl (fun a b=>a*b) y l:=fun l=>by
  induction l with
  | nil=>intro x y;rfl
  | cons c r ih=>
   intro x y
   rw [List.foldl_cons,List.foldl_cons,n6,ih]
 have z:=this b x 1
 rw [Int.mul_one] at z
 exact z
theorem Gj {l:List Int} {i:Nat} {v:V} (h:(l.map V.int)[i]?=some v):∃x,l[i]?=some x∧v= .int x:=by
 rw [du] at h
 cases e:l[i]? with
 | none=>rw [e] at h;cases h
 | some x=>rw [e] at h;cases h;exact⟨x,rfl,rfl⟩
def FE (T:Tx K mg):Sp:=fun vs H Q _=>∃(a:Addr) (l:List Int),vs= [.ref a]∧a5 K H a (l.map V.int)∧l.length≤1000∧(∀x∈l,Sz 400 x)∧Q (.int (fy l)) H
theorem xH (T:Tx K mg):dO P w base T.vg 1 (FE T):=by
 refine T.vg.okA l5 ?_
 rintro _ A _ s H _ Q E hr
 refine io ?_
 rintro a l rfl hs hl hz k
 refine⟨_,(ac (aZ 1 l5.nd am)
   (ac (eh cM rfl (cF (pv 0)) (kZ 2 l5.nd) (ae (aZ 1 l5.nd (aB aJ (pv 1) (pv 2)))))
   (ae (aj (pv 1))))),?_⟩
 refine pO _ rfl a rfl ⟨_,hs⟩ (eE (xs:=l.map V.int) (fun i σ H'=>∃v:Option V,σ= [some (.ref a),some (.int (fy (l.take i))),v]∧H'=H) ⟨none,rfl,rfl⟩ (fun i σ H' _ ⟨_,_,e⟩=>by rw [e];exact hs) ?_ ?_)
 ·rintro i v σ H' hv
  refine a4 ?_
  rintro w' rfl rfl
  refine a4 ?_ (Gj hv)
  rintro x hx rfl
  have hi:=(cg.mp hx).1
  refine bJ _ rfl (eu _ rfl _ _ rfl rfl (bE ((tW hz i).mono (n:=1000000) ⋯) (hz x (eR hx))) ?_)
  exact⟨_,(by rw [Ch.bA hx,iW];rfl),rfl⟩
 ·rintro σ H'
  refine a4 ?_
  rintro w' rfl rfl
  rw [aD,l9]
  exact⟨_,rfl,k⟩
theorem LG {r b:Int} (hr:0<r) (hb:0<b):b∣r*(b /((Nat.gcd r.natAbs b.toNat:Nat):Int)):=by
 have hg:=dI (n:=r) hb
 have d1:((Nat.gcd r.natAbs b.toNat:Nat):Int)∣r:=Fr.eB _ _
 have d2:((Nat.gcd r.natAbs b.toNat:Nat):Int)∣b:=by
  have:=C6.mpr (jk r.natAbs b.toNat)
  rwa [cE (fH hb)] at this
 generalize ((Nat.gcd r.natAbs b.toNat:Nat):Int)=g at*
 obtain⟨x,rfl⟩:=d1
 obtain⟨y,rfl⟩:=d2
 rw [C3 _ ⋯]
 exact⟨x,by grind⟩
theorem Mj {r b:Int} (hb:0<b):0<b /((Nat.gcd r.natAbs b.toNat:Nat):Int):=by
 have hg:=dI (n:=r) hb
 have d2:((Nat.gcd r.natAbs b.toNat:Nat):Int)∣b:=by
  have:=C6.mpr (jk r.natAbs b.toNat)
  rwa [cE (fH hb)] at this
 generalize ((Nat.gcd r.natAbs b.toNat:Nat):Int)=g at*
 obtain⟨y,rfl⟩:=d2
 rw [C3 _ ⋯]
 exact Int.pos_of_mul_pos_right hb hg
structure vx (bs ps:List Int):Prop where
 len:ps.length=bs.length
 pos:∀p∈ps,0<p
 sz:∀p∈ps,Sz 250 p
 dvd:∀b∈bs,b∣fy ps
theorem vx.nil:vx [] []:=⟨rfl,fun _ h=>(nomatch h),fun _ h=>(nomatch h),fun _ h=>(nomatch h)⟩
theorem vx.pp {bs ps:List Int} (h:vx bs ps):0<fy ps:=by rw [←l9];exact Ej h.pos _
theorem vx.snoc {bs ps:List Int} {b:Int} (h:vx bs ps) (hb:0<b) (hz:Sz 250 b):vx (bs++ [b]) (ps++ [b /((Nat.gcd (fy ps).natAbs b.toNat:Nat):Int)]):=by
 have hp:=Mj (r:=fy ps) hb
 refine⟨by rw [bZ,bZ,h.len];rfl,fun p hm=>?_,fun p hm=>?_,fun x hm=>?_⟩
 ·rcases jT.mp hm with q | q
  ·exact h.pos p q
  ·rw [gQ] at q
   rw [q];exact hp
 ·rcases jT.mp hm with q | q
  ·exact h.sz p q
  ·rw [gQ] at q
   rw [q];exact hz.ediv (dI hb)
 ·rw [iW]
  rcases jT.mp hm with q | q
  ·exact Jd (h.dvd x q)
  ·rw [gQ] at q
   rw [q];exact LG h.pp hb
theorem xw (l:List Int) (x:Int):l.map V.int++ [V.int x]=(l++ [x]).map V.int:=by rw [dB];rfl
def yl (T:Tx K mg):Sp:=fun vs H Q _=>∃(a:Addr) (bs:List Int),vs= [.ref a]∧a5 K H a (bs.map V.int)∧bs.length≤1000∧(∀x∈bs,0<x∧Sz 250 x)∧∀(H':Hp) (p:Addr) (ps:List Int),H' p=some (.lst (ps.map V.int))→vx bs ps→aC H H'→H p=none→Q (.ref p) H'
theorem nE (T:Tx K mg):dO P w base T.jY 2 (yl T):=by
 refine T.jY.okA dW ?_
 rintro _ A _ s H _ Q E hr
 refine io ?_
 rintro a bs rfl hs hl hb k
 refine⟨_,(ac (aZ 1 dW.nd (aI ad))
   (ac (aZ 2 dW.nd am)
   (ac (eh cM rfl (cF (pv 0)) (kZ 3 dW.nd) (ac (aZ 4 dW.nd (aB cD (pv 3) (bj T.cW (dm T) hr (ab (pv 2) (ab (pv 3) ad)))))
   (ac (gw (rZ lM uG uH jg (pv 1) (ab (pv 4) ad)))
   (ae (aZ 2 dW.nd (aB aJ (pv 2) (pv 4)))))))
   (ae (aj (pv 1)))))),?_⟩
 refine⟨bo _,fun D hD=>?_⟩
 have sD:=aC.laid (o:= .lst []) hD
 refine pO _ rfl a rfl ⟨_,sD.seq hs⟩ (eE (xs:=bs.map V.int) (fun i σ H'=>∃(v v2:Option V) (ps:List Int),σ= [some (.ref a),some (.ref D),some (.int (fy ps)),v,v2]∧vx (bs.take i) ps∧H' D=some (.lst (ps.map V.int))∧aC H H') (bY none none ([]) rfl vx.nil af sD) (fun i σ H' _ ⟨_,_,_,_,_,_,s⟩=>s.seq hs) ?_ ?_)
 ·rintro i v σ H1 hv
  refine CZ ?_
  rintro w1 w2 ps rfl hp h1 s1
  refine a4 ?_ (Gj hv)
  rintro x hx rfl
  have hi:=(cg.mp hx).1
  obtain⟨x0,xz⟩:=hb x (eR hx)
  have hlen:ps.length≤1000:=by rw [hp.len,ii];omega
  refine bJ _ rfl (eY _ rfl _ rfl _ _ rfl x0 (bR _ _ rfl rfl (qd (dI x0) (lh x0 (xz.mono ()))) ?_))
  refine eQ _ rfl (.inl ⟨rfl,_,a5.of h1⟩) _ rfl (i5 D _ _ rfl rfl h1 (by rw [aD];show ps.length<2 ^ 24;omega) ?_)
  have z:=tW hp.sz ps.length
  rw [l9] at z
  refine bJ _ rfl (eu _ rfl _ _ rfl rfl (bE (z.mono (n:=1000000) ⋯) (xz.ediv (dI x0))) ?_)
  have hsn:=hp.snoc x0 xz
  rw [←Ch.bA hx] at hsn
  refine bY _ _ _ (by rw [iW];rfl) hsn ?_ fun b o e=>?_
  ·rw [af,xw]
  ·rw [ak (aw e hD)]
   exact s1 b o e
 ·rintro σ H1
  refine CZ ?_
  rintro w1 w2 ps rfl hp h1 s1
  rw [aD,jU] at hp
  exact⟨_,rfl,k H1 D ps h1 hp s1 hD⟩
def zD (T:Tx K mg):Sp:=fun vs H Q _=>∃(a:Addr) (bP:Int) (fs:List Int),vs= [.int bP,.ref a]∧a5 K H a (fs.map V.int)∧fs.length≤1000∧(∀x∈fs,0<x∧Sz 250 x)∧∀(x:Addr) (H':Hp),j2 T H' x (Vbdeab.mkQ bP (fy fs).toNat)→aC H H'→Q (.ref x) H'
theorem kG (T:Tx K mg):dO P w base T.iM 3 (zD T):=by
 refine T.iM.okA dD ?_
 rintro _ A _ s H _ Q E hr
 refine DR ?_
 rintro a bP fs rfl hs hl hb k
 refine⟨_,(ac (aZ 2 dD.nd (pv 0))
   (ac (aZ 3 dD.nd am)
   (ac (eh cM rfl (cF (pv 1)) (kZ 4 dD.nd) (ac (aZ 5 dD.nd (bj T.cW (dm T) hr (ab (pv 2) (ab (pv 4) ad))))
   (ac (aZ 2 dD.nd (aB cD (pv 2) (pv 5)))
   (ae (aZ 3 dD.nd (aB aJ (pv 3) (aB cD (pv 4) (pv 5))))))))
   (ae (aj (Ax T.bp (bb T) hr (ab (pv 2) (ab (pv 3) ad)))))))),?_⟩
 refine bJ _ rfl (pO _ rfl a rfl ⟨_,hs⟩ (eE (xs:=fs.map V.int) (fun i σ H'=>∃(v v2:Option V) (left bottom:Int),σ= [some (.int bP),some (.ref a),some (.int left),some (.int bottom),v,v2]∧Fr.M7 bP (fy (fs.take i)) left bottom∧Sz (250*i+1) bottom∧H'=H) ⟨none,(bY none bP 1 rfl (Fr.M7.start bP) (by show(1:Int).natAbs<_;decide) rfl)⟩ (fun i σ H' _ ⟨_,_,_,_,_,_,_,e⟩=>by rw [e];exact hs) ?_ ?_))
 ·rintro i v σ H1 hv
  refine oF ?_
  rintro w1 w2 left bottom rfl lw hz rfl
  refine a4 ?_ (Gj hv)
  rintro x hx rfl
  have hi:=(cg.mp hx).1
  obtain⟨x0,xz⟩:=hb x (eR hx)
  have hg:=dI (n:=left) x0
  have hgz:=lh (n:=left) x0 (xz.mono (n:=9000) ())
  refine eY _ rfl _ rfl _ _ rfl x0 ?_
  refine bJ _ rfl (eu _ rfl _ _ rfl rfl (qd hg hgz) ?_)
  refine bD _ rfl _ rfl (eu _ rfl _ _ rfl rfl (qd hg hgz) (bR _ _ rfl rfl (bE (hz.mono (n:=1000000) ⋯) (xz.ediv hg)) ?_))
  have st:=lw.step x0
  rw [←iW,←Ch.bA hx] at st
  exact⟨_,(bY _ _ _ rfl st (hz.mul (xz.ediv hg) ⋯) rfl)⟩
 ·rintro σ H1
  refine oF ?_
  rintro w1 w2 left bottom rfl lw hz rfl
  rw [aD,l9] at lw
  refine bD _ rfl _ rfl ?_
  intro x dx' nx nd _
  refine dh nx nd (fun H2 e2 s2=>k x H2 ?_ s2) (cK left bottom rfl rfl)
  rw [←lw.iz.eq]
  refine⟨dx',?_⟩
  rw [e2]
  have:=lw.bpos
  rw [cE ⋯]
def wH (T:Tx K mg):Sp:=fun vs H Q _=>∃(a:Addr) (n d:Int) (S:Nat),vs= [.ref a,.int S]∧fI T H a n d∧0<d∧Sz 9000 d∧0<S∧Nat.gcd n.natAbs S=Nat.gcd n.natAbs d.toNat∧∀(x:Addr) (H':Hp),j2 T H' x (Vbdeab.mkQ n d.toNat)→aC H H'→Q (.ref x) H'
theorem wj (T:Tx K mg):dO P w base T.lQ 3 (wH T):=by
 refine T.lQ.okA mP ?_
 rintro _ A _ s H _ Q E hr
 refine MW ?_
 rintro a n d S rfl U1 hd hz hS hg k
 obtain⟨dx,h1⟩:=U1
 refine⟨_,(ac (aZ 2 mP.nd (bj T.cW (dm T) hr (ab (ao (pv 0) rfl) (ab (pv 1) ad))))
   (ae (aj (Ax T.bp (bb T) hr (ab (aB cD (ao (pv 0) rfl) (pv 2)) (ab (aB cD (ao (pv 0) rfl) (pv 2)) ad)))))),?_⟩
 refine aM _ rfl a _ dx _ _ rfl h1 T.aA.cl (T.aA.no _ ()) rfl (cy _ rfl _ _ rfl ⋯ ?_)
 have e:((Nat.gcd n.natAbs (S:Int).toNat:Nat):Int)=((Nat.gcd n.natAbs d.toNat:Nat):Int):=by rw [cV,hg]
 have hgp:=dI (n:=n) hd
 have hgz:=lh (n:=n) hd hz
 rw [←e] at hgp hgz
 refine aM _ rfl a _ dx _ _ rfl h1 T.aA.cl (T.aA.no _ ()) rfl (eu _ rfl _ _ rfl rfl (qd hgp hgz) (aM _ rfl a _ dx _ _ rfl h1 T.aA.cl (T.aA.no _ ()) rfl (eu _ rfl _ _ rfl rfl (qd hgp hgz) ?_)))
 intro x dx' nx nd _
 refine dh nx nd (fun H2 e2 s2=>k x H2 ⟨dx',?_⟩ s2) (cK _ _ rfl rfl)
 rw [e2,Kd.E4 hd,Kd.E3 hd,e]
open Vbdeab (Q Class)
def IH (C:Addr) (R:Hp→List V→List (Str×V)→Prop):Sp:=fun vs H Q _=>∃p dx args fs,vs= .ref p::args∧R H args fs∧H p=some (.ins C dx [])∧∀H':Hp,H' p=some (.ins C dx fs)→(∀b o,H b=some o→b≠p→H' b=some o)→Q .non H'
theorem Ex {H:Hp} {x dx C:Addr} (nx:H x=none) (nd:H dx=none):aC H (bT (bT H dx (.own x)) x (.ins C dx [])):=fun b o e=>by
 rw [ak (aw e nx),ak (aw e nd)]
 exact e
theorem JE {C x dx:Addr} {R:Hp→List V→List (Str×V)→Prop} {args:List V} {fs:List (Str×V)} {H1:Hp} {G:Hp→Prop} {E:XK} (nx:H1 x=none) (nd:H1 dx=none) (k:∀H2,H2 x=some (.ins C dx fs)→aC H1 H2→G H2) (r:∀H',aC H1 H'→R H' args fs):
  IH C R (.ref x::(args++ [])) (bT (bT H1 dx (.own x)) x (.ins C dx [])) (fun v H2=>v= .non∧G H2) E:=
 ⟨x,(bY dx args fs (by rw [vU]) (r _ (Ex nx nd)) af fun H' h1 h2=>⟨rfl,k H' h1 (aC.made nx nd h2)⟩)⟩
theorem Jt {C D x y:Addr} {fs gs:List (Str×V)} (h:¬fs.length=gs.length):HO.ins C x fs≠HO.ins D y gs:=fun z=>h (cA List.length (HO.ins.inj z).2.2)
theorem fI.put {T:Tx K mg} {H:Hp} {a p:Addr} {n d:Int} {o:HO} (h:fI T H a n d) (hne:a≠p):fI T (bT H p o) a n d:=let ⟨dx,e⟩:=h;⟨dx,by rw [ak hne];exact e⟩
def Rm (ax ay:Addr) (c:Class):List (Str×V):= [("x",.ref ax),("y",.ref ay),("bottom",.int (Fr.cB c)),("origin",.int (Fr.cO c)),("rise",.int (Fr.cR c))]
def Rj (ax ay:Addr) (n:Nat) (c:Class):List (Str×V):= [("x",.ref ax),("gap",.ref ay),("teeth",.int (n:Nat)),("bottom",.int (Fr.cB c)),("origin",.int (Fr.cO c)),("rise",.int (Fr.cR c))]
def jr (T:Tx K mg) (H:Hp) (a:Addr) (c:Class):Prop:=match c with
 | .line x y=>∃dx ax ay,H a=some (.ins T.aP.C dx (Rm ax ay (.line x y)))∧j2 T H ax x∧j2 T H ay y
 | .comb x s n=>∃dx ax ay,H a=some (.ins T.aH.C dx (Rj ax ay n (.comb x s n)))∧j2 T H ax x∧j2 T H ay s
theorem jr.si {T:Tx K mg} {H H':Hp} {a:Addr} {c:Class} (h:jr T H a c) (s:ib H H'):jr T H' a c:=by
 cases c with
 | line x y=>refine d7 (fun dx ax ay e h1 h2=>?_) h;exact h9 dx ax ay (s _ _ _ _ e) (h1.si s) (h2.si s)
 | comb x y n=>refine d7 (fun dx ax ay e h1 h2=>?_) h;exact h9 dx ax ay (s _ _ _ _ e) (h1.si s) (h2.si s)
theorem jr.same {T:Tx K mg} {H H':Hp} {a:Addr} {c:Class} (h:jr T H a c) (s:aC H H'):jr T H' a c:=by
 cases c with
 | line x y=>refine d7 (fun dx ax ay e h1 h2=>?_) h;exact h9 dx ax ay (s _ _ e) (h1.same s) (h2.same s)
 | comb x y n=>refine d7 (fun dx ax ay e h1 h2=>?_) h;exact h9 dx ax ay (s _ _ e) (h1.same s) (h2.same s)
def jf (q:Q):Prop:=q.small=true∧Fr.lowQ q
def vw (c:Class):Prop:=c.small=true∧Fr.j3 c
def EI (T:Tx K mg) (H:Hp) (v:V) (o:Option Class):Prop:=match o with
 | none=>v= .non
 | some c=>∃x,v= .ref x∧jr T H x c∧vw c
theorem EI.si {T:Tx K mg} {H H':Hp} {v:V} {o:Option Class} (h:EI T H v o) (s:ib H H'):EI T H' v o:=by
 cases o with
 | none=>exact h
 | some q=>refine lB (fun x e h k=>?_) h;exact df x e (h.si s) k
theorem EI.same {T:Tx K mg} {H H':Hp} {v:V} {o:Option Class} (h:EI T H v o) (s:aC H H'):EI T H' v o:=by
 cases o with
 | none=>exact h
 | some q=>refine lB (fun x e h k=>?_) h;exact df x e (h.same s) k
theorem OO {n:Nat} (h:n≤1000000000000000000):n<2 ^ 60:=oe h ()
theorem cJ {q:Q} (h:q.small=true):Sz 60 q.num∧Sz 60 (q.den:Int):=by
 unfold Vbdeab.Q.small at h
 rw [yx,yx,fC,fC,fC] at h
 exact⟨OO h.1.1,by show((q.den:Int)).natAbs<_;rw [kr];exact OO h.2⟩
theorem gt {q:Q} (h:Fr.lowQ q):(0:Int)<(q.den:Int):=by have:=h.1;omega
theorem Bm {x y:Q} (hx:x.small=true) (hy:y.small=true):Sz 120 (Fr.sQ x y):=by
 unfold Fr.sQ
 refine(cJ hx).2.mul ?_ (n:=60)
 refine(cJ hy).2.le ?_
 rw [kr,kr]
 exact Nat.div_le_self y.den (Nat.gcd x.den y.den)
theorem xI {x:Q} {b:Int} (hx:x.small=true) (hl:Fr.lowQ x) (hb:Sz 120 b):Sz 180 (Fr.Dy x b):=(cJ hx).1.mul (hb.ediv (gt hl))
theorem E2 {x y:Q} (h:vw (.line x y)):jf x∧jf y:=by
 obtain⟨h1,h2⟩:=h
 have h1':(x.small && y.small)=true:=h1
 rw [yx] at h1'
 exact⟨⟨h1'.1,h2.1⟩,⟨h1'.2,h2.2⟩⟩
theorem gf {x s:Q} {n:Nat} (h:vw (.comb x s n)):jf x∧jf s∧1≤n∧n≤1000000000000000000:=by
 obtain⟨h1,h2⟩:=h
 have h1':(x.small && s.small && decide (1≤n) && decide (n≤Vbdeab.BIG))=true:=h1
 rw [yx,yx,yx,fC,fC] at h1'
 exact b8 ⟨h1'.1.1.1,h2.1⟩ ⟨h1'.1.1.2,h2.2.1⟩ h1'.1.2 h1'.2
theorem vw.line {x y:Q} (hx:jf x) (hy:jf y):vw (.line x y):=⟨Kd.v9 hx.1 hy.1,hx.2,hy.2⟩
theorem vw.comb {x y:Q} {n:Nat} (hx:jf x) (hy:jf y) (h1:1≤n) (h2:n≤1000000000000000000):vw (.comb x y n):=by
 refine b8 ?_ hx.2 hy.2 h1
 rw [Kd.BE hx.1 hy.1,aE h1,aE (show n≤Vbdeab.BIG from h2)]
 rfl
theorem iT {c:Class} (h:vw c):0<Fr.cB c∧Sz 120 (Fr.cB c)∧Sz 180 (Fr.cO c)∧Sz 181 (Fr.cR c):=by
 refine⟨Fr.mt h.2,?_⟩
 cases c with
 | line x y=>
  obtain⟨hx,hy⟩:=E2 h
  have hb:=Bm hx.1 hy.1
  exact⟨hb,xI hx.1 hx.2 hb,(xI hy.1 hy.2 hb).sub (xI hx.1 hx.2 hb)⟩
 | comb x s n=>
  refine gk (fun hx hy _=>?_) (gf h)
  have hb:=Bm hx.1 hy.1
  exact⟨hb,xI hx.1 hx.2 hb,(xI hy.1 hy.2 hb).mono ()⟩
theorem nv {n d:Int} {q:Q} (h:Vbdeab.fraction n d=some q):jf q:=⟨(Kd.gy h).1,(Kd.gy h).2.1⟩
def wD (T:Tx K mg):Sp:=fun vs H Q _=>∃(a b:Addr) (x y:Vbdeab.Q),vs= [.ref a,.ref b]∧j2 T H a x∧j2 T H b y∧jf x∧jf y∧Q (.int (Fr.sQ x y)) H
theorem mB (T:Tx K mg):dO P w base T.iQ 2 (wD T):=by
 refine T.iQ.okA wu ?_
 rintro _ A _ s H _ Q E hr
 refine MV ?_
 rintro a b x y rfl U1 U2 hx hy k
 obtain⟨dx,h1⟩:=U1
 obtain⟨dy,h2⟩:=U2
 refine⟨_,(ae (aj (aB aJ (ao (pv 0) rfl) (aB cD (ao (pv 1) rfl) (bj T.cW (dm T) hr (ab (ao (pv 0) rfl) (ab (ao (pv 1) rfl) ad))))))),?_⟩
 have y0:=gt hy.2
 have yz:=(cJ hy.1).2
 have hg:=dI (n:=(x.den:Int)) y0
 refine aM _ rfl a _ dx _ _ rfl h1 T.aA.cl (T.aA.no _ ()) rfl (aM _ rfl b _ dy _ _ rfl h2 T.aA.cl (T.aA.no _ ()) rfl (aM _ rfl a _ dx _ _ rfl h1 T.aA.cl (T.aA.no _ ()) rfl (aM _ rfl b _ dy _ _ rfl h2 T.aA.cl (T.aA.no _ ()) rfl (bV _ _ rfl y0 (bR _ _ rfl rfl (qd hg (lh y0 (yz.mono ()))) (bR _ _ rfl rfl (bE (cJ hx.1).2 (yz.ediv hg)) ?_))))))
 have e:(x.den:Int)*((y.den:Int) /((Nat.gcd (x.den:Int).natAbs (y.den:Int).toNat:Nat):Int))=Fr.sQ x y:=by
  unfold Fr.sQ
  rw [kr,cV,C5]
 show Q (.int _) H
 rw [e]
 exact k
def Be (T:Tx K mg):Sp:=fun vs H Q _=>∃(a:Addr) (x:Vbdeab.Q) (b:Int),vs= [.ref a,.int b]∧j2 T H a x∧jf x∧Sz 120 b∧Q (.int (Fr.Dy x b)) H
theorem iO (T:Tx K mg):dO P w base T.ia 1 (Be T):=by
 refine T.ia.okA AX ?_
 rintro _ A _ s H _ Q E hr
 refine DR ?_
 rintro a x b rfl U1 hx hb k
 obtain⟨dx,h1⟩:=U1
 refine⟨_,(ae (aj (aB aJ (ao (pv 0) rfl) (aB cD (pv 1) (ao (pv 0) rfl))))),?_⟩
 exact aM _ rfl a _ dx _ _ rfl h1 T.aA.cl (T.aA.no _ ()) rfl (i4 _ rfl _ rfl a _ dx _ _ rfl h1 T.aA.cl (T.aA.no _ ()) rfl (bR _ _ rfl rfl (qd (gt hx.2) ((cJ hx.1).2.mono ())) (bR _ _ rfl rfl (bE (cJ hx.1).1 (hb.ediv (gt hx.2))) k)))
def Ba (T:Tx K mg):Sp:=fun vs H Q _=>∃(a:Addr) (v:Vbdeab.Q) (t b:Int),vs= [.int t,.int b,.ref a]∧j2 T H a v∧jf v∧Sz 400 t∧Sz 400 b∧Q (.int (v.num*b - t*(v.den:Int))) H
theorem lH (T:Tx K mg):dO P w base T.jZ 1 (Ba T):=by
 refine T.jZ.okA AU ?_
 rintro _ A _ s H _ Q E hr
 refine MV ?_
 rintro a v t b rfl U1 hv ht hb k
 obtain⟨dx,h1⟩:=U1
 refine⟨_,(ae (aj (aB cb (aB aJ (ao (pv 2) rfl) (pv 1)) (aB aJ (pv 0) (ao (pv 2) rfl))))),?_⟩
 exact aM _ rfl a _ dx _ _ rfl h1 T.aA.cl (T.aA.no _ ()) rfl (eu _ rfl _ _ rfl rfl (bE (cJ hv.1).1 hb) (i4 _ rfl _ rfl a _ dx _ _ rfl h1 T.aA.cl (T.aA.no _ ()) rfl (jt _ _ rfl rfl (bE ht (cJ hv.1).2) _ _ rfl rfl k)))
def Fy (T:Tx K mg):Sp:=fun vs H Q _=>∃(n m:Int),vs= [.int n,.int m]∧0≤m∧Q (.int (Fr.gc n m)) H
theorem xC (T:Tx K mg):dO P w base T.vc 1 (Fy T):=by
 refine T.vc.okA Fl ?_
 rintro _ A _ s H _ Q E hr
 refine yw ?_
 rintro n m rfl hm k
 refine⟨_,(ae (aj (a9 (Kb rfl) (by rfl) T.Qn (by rfl) (ab am (ab (a9 (D4 rfl) (by rfl) T.MZ (by rfl) (ab (pv 0) (ab (pv 1) ad))) ad))))),?_⟩
 refine bD _ rfl _ rfl (cK _ _ rfl (cK _ _ rfl ?_))
 have e:(if (if m<n then m else n)>0 then(if m<n then m else n) else 0)=Fr.gc n m:=by
  unfold Fr.gc
  repeat' split
  all_goals omega
 show Q (.int _) H
 rw [e]
 exact k
def CJ (T:Tx K mg):Sp:=IH T.aP.C (fun H args fs=>∃(ax ay:Addr) (x y:Vbdeab.Q),args= [.ref ax,.ref ay]∧fs=Rm ax ay (.line x y)∧j2 T H ax x∧j2 T H ay y∧jf x∧jf y)
theorem BX (T:Tx K mg):sP mg P w base T.uQ 3 (CJ T):=by
 refine T.uQ.okA Cr ?_ (by rintro _ _ _ _ ⟨p,dx,_,_,rfl,⟨ax,ay,x,y,rfl,rfl,hax,hay,hx,hy⟩,hp,k⟩;rfl)
 rintro _ A _ s H _ Q E hr
 refine oF ?_
 rintro p dx _ _ rfl U1 hp k
 refine MV ?_ U1
 rintro ax ay x y rfl rfl hax hay hx hy
 refine⟨_,(ac (cv (pv 0) (pv 1) rfl)
   (ac (cv (pv 0) (pv 2) rfl)
   (ac (cv (pv 0) (bj T.iQ (mB T) hr (ab (pv 1) (ab (pv 2) ad))) rfl)
   (ac (cv (pv 0) (bj T.ia (iO T) hr (ab (pv 1) (ab (ao (pv 0) rfl) ad))) rfl)
   (ae (cv (pv 0) (aB cb (bj T.ia (iO T) hr (ab (pv 2) (ab (ao (pv 0) rfl) ad))) (ao (pv 0) rfl)) rfl)))))),?_⟩
 have nx:ax≠p:=let ⟨_,e⟩:=hax;bg e hp (Jt (by show ¬2=0;decide))
 have ny:ay≠p:=let ⟨_,e⟩:=hay;bg e hp (Jt (by show ¬2=0;decide))
 have hb:=Bm hx.1 hy.1
 refine pP _ rfl _ rfl p _ dx _ rfl hp T.aP.cl (T.aP.no _ ()) (by show 0<1000;decide) ?_
 refine pP _ rfl _ rfl p _ dx _ rfl af T.aP.cl (T.aP.no _ ()) (by show 1<1000;decide) ?_
 refine pP _ rfl _ rfl ax ay x y rfl ((hax.put nx).put nx) ((hay.put ny).put ny) hx hy (gP _ rfl p _ dx _ rfl af T.aP.cl (T.aP.no _ ()) (by show 2<1000;decide) ?_)
 refine i4 _ rfl _ rfl p _ dx _ _ rfl af T.aP.cl (T.aP.no _ ()) rfl (i5 ax x _ rfl (((hax.put nx).put nx).put nx) hx hb (gP _ rfl p _ dx _ rfl af T.aP.cl (T.aP.no _ ()) (by show 3<1000;decide) ?_))
 refine i4 _ rfl _ rfl p _ dx _ _ rfl af T.aP.cl (T.aP.no _ ()) rfl (i5 ay y _ rfl ((((hay.put ny).put ny).put ny).put ny) hy hb (aM _ rfl p _ dx _ _ rfl af T.aP.cl (T.aP.no _ ()) rfl (bV _ _ rfl rfl (gP _ rfl p _ dx _ rfl af T.aP.cl (T.aP.no _ ()) (by show 4<1000;decide) ?_))))
 exact k _ af fun b o e hb=>by rw [ak hb,ak hb,ak hb,ak hb,ak hb];exact e
def CF (T:Tx K mg):Sp:=IH T.aH.C (fun H args fs=>∃(ax ay:Addr) (x y:Vbdeab.Q) (n:Nat),args= [.ref ax,.ref ay,.int n]∧fs=Rj ax ay n (.comb x y n)∧j2 T H ax x∧j2 T H ay y∧jf x∧jf y)
theorem BV (T:Tx K mg):sP mg P w base T.uO 3 (CF T):=by
 refine T.uO.okA Cn ?_ (by rintro _ _ _ _ ⟨p,dx,_,_,rfl,⟨ax,ay,x,y,n,rfl,rfl,hax,hay,hx,hy⟩,hp,k⟩;rfl)
 rintro _ A _ s H _ Q E hr
 refine oF ?_
 rintro p dx _ _ rfl U1 hp k
 refine FL ?_ U1
 rintro ax ay x y n rfl rfl hax hay hx hy
 refine⟨_,(ac (cv (pv 0) (pv 1) rfl)
   (ac (cv (pv 0) (pv 2) rfl)
   (ac (cv (pv 0) (pv 3) rfl)
   (ac (cv (pv 0) (bj T.iQ (mB T) hr (ab (pv 1) (ab (pv 2) ad))) rfl)
   (ac (cv (pv 0) (bj T.ia (iO T) hr (ab (pv 1) (ab (ao (pv 0) rfl) ad))) rfl)
   (ae (cv (pv 0) (bj T.ia (iO T) hr (ab (pv 2) (ab (ao (pv 0) rfl) ad))) rfl))))))),?_⟩
 have nx:ax≠p:=let ⟨_,e⟩:=hax;bg e hp (Jt (by show ¬2=0;decide))
 have ny:ay≠p:=let ⟨_,e⟩:=hay;bg e hp (Jt (by show ¬2=0;decide))
 have hb:=Bm hx.1 hy.1
 refine pP _ rfl _ rfl p _ dx _ rfl hp T.aH.cl (T.aH.no _ ()) (by show 0<1000;decide) ?_
 refine pP _ rfl _ rfl p _ dx _ rfl af T.aH.cl (T.aH.no _ ()) (by show 1<1000;decide) ?_
 refine pP _ rfl _ rfl p _ dx _ rfl af T.aH.cl (T.aH.no _ ()) (by show 2<1000;decide) ?_
 refine pP _ rfl _ rfl ax ay x y rfl (((hax.put nx).put nx).put nx) (((hay.put ny).put ny).put ny) hx hy (gP _ rfl p _ dx _ rfl af T.aH.cl (T.aH.no _ ()) (by show 3<1000;decide) ?_)
 refine i4 _ rfl _ rfl p _ dx _ _ rfl af T.aH.cl (T.aH.no _ ()) rfl (i5 ax x _ rfl ((((hax.put nx).put nx).put nx).put nx) hx hb (gP _ rfl p _ dx _ rfl af T.aH.cl (T.aH.no _ ()) (by show 4<1000;decide) ?_))
 refine i4 _ rfl _ rfl p _ dx _ _ rfl af T.aH.cl (T.aH.no _ ()) rfl (i5 ay y _ rfl (((((hay.put ny).put ny).put ny).put ny).put ny) hy hb (gP _ rfl p _ dx _ rfl af T.aH.cl (T.aH.no _ ()) (by show 5<1000;decide) ?_))
 exact k _ af fun b o e hb=>by rw [ak hb,ak hb,ak hb,ak hb,ak hb,ak hb];exact e
def FC (T:Tx K mg):Sp:=fun vs H Q _=>∃(u v:V) (x y:Option Vbdeab.Q),vs= [u,v]∧OQ T H u x∧OQ T H v y∧(∀q,x=some q→jf q)∧(∀q,y=some q→jf q)∧∀(r:V) (H':Hp),EI T H' r (Kd.j8 x y)→aC H H'→Q r H'
theorem qC (T:Tx K mg):dO P w base T.pU 5 (FC T):=by
 refine T.pU.okA Fo ?_
 rintro _ A _ s H _ Q E hr
 refine MV ?_
 rintro u v x y rfl hu hv hx hy k
 refine⟨_,(ac (aT (lr (ic (aR kH (pv 0) de (aY _)) (ik (aR kH (pv 1) de (aY _))))) (ae (aj de)) aG)
   (ae (aj (Ax T.uQ (BX T) hr (ab (pv 0) (ab (pv 1) ad)))))),?_⟩
 cases x with
 | none=>
  obtain rfl:u= .non:=hu
  exact eQ _ rfl rfl _ rfl (jC (k .non H rfl (aC.refl' H)))
 | some x=>
  refine a4 ?_ hu
  rintro ax rfl hax
  cases y with
  | none=>
   obtain rfl:v= .non:=hv
   exact eQ _ rfl rfl _ rfl (eQ _ rfl rfl _ rfl (k .non H rfl (aC.refl' H)))
  | some y=>
   refine a4 ?_ hv
   rintro ay rfl hay
   refine⟨_,rfl,rfl,_,rfl,_,rfl,rfl,_,rfl,_,rfl,_,rfl,?_⟩
   intro z dz nz nd _
   refine JE nz nd (fun H2 e2 s2=>k (.ref z) H2 (df z rfl (h9 dz ax ay e2 (hax.same s2) (hay.same s2)) (vw.line (hx _ rfl) (hy _ rfl))) s2) fun H' s'=>(j5 ax ay x y rfl rfl (hax.same s') (hay.same s') (hx _ rfl) (hy _ rfl))
def Fz (T:Tx K mg):Sp:=fun vs H Q _=>∃(u v:V) (x y:Option Vbdeab.Q) (n:Int),vs= [u,v,.int n]∧OQ T H u x∧OQ T H v y∧(∀q,x=some q→jf q)∧(∀q,y=some q→jf q)∧∀(r:V) (H':Hp),EI T H' r (Kd.nu x y n)→aC H H'→Q r H'
theorem lZ (T:Tx K mg):dO P w base T.mj 5 (Fz T):=by
 refine T.mj.okA Fm ?_
 rintro _ A _ s H _ Q E hr
 refine FL ?_
 rintro u v x y n rfl hu hv hx hy k
 refine⟨_,(ac (aT (lr (ic (aR kH (pv 0) de (aY _)) (ic (aR kH (pv 1) de (aY _)) (ik (aV (aS (bj T.bW (a8 T) hr (ab (pv 2) (ab am (ab (fk T.FP) ad)))))))))) (ae (aj de)) aG)
   (ae (aj (Ax T.uO (BV T) hr (ab (pv 0) (ab (pv 1) (ab (pv 2) ad))))))),?_⟩
 cases x with
 | none=>
  obtain rfl:u= .non:=hu
  exact eQ _ rfl rfl _ rfl (jC (k .non H rfl (aC.refl' H)))
 | some x=>
  refine a4 ?_ hu
  rintro ax rfl hax
  cases y with
  | none=>
   obtain rfl:v= .non:=hv
   exact eQ _ rfl rfl _ rfl (eQ _ rfl rfl _ rfl (jC (k .non H rfl (aC.refl' H))))
  | some y=>
   refine a4 ?_ hv
   rintro ay rfl hay
   have ek:Kd.nu (some x) (some y) n=if 1≤n∧n≤1000000000000000000 then some (.comb x y n.toNat) else none:=rfl
   rw [ek] at k
   refine eQ _ rfl rfl _ rfl (eQ _ rfl rfl _ rfl (fB _ rfl n 1 (bD 1000000000000000000 rfl _ rfl (aX (fun h1=>?_) (fun h1=>?_)))))
   ·rw [if_neg (oV h1)] at k
    exact k .non H rfl (aC.refl' H)
   ·have hn:=oW h1
    rw [if_pos hn] at k
    refine bd _ rfl _ rfl _ rfl ?_
    intro z dz nz nd _
    have en:n=((n.toNat:Nat):Int):=by omega
    refine JE nz nd (fun H2 e2 s2=>k (.ref z) H2 (df z rfl (h9 dz ax ay e2 (hax.same s2) (hay.same s2)) (vw.comb (hx _ rfl) (hy _ rfl) ⋯ ⋯)) s2) fun H' s'=>(iK ax ay x y n.toNat (by rw [←en]) rfl (hax.same s') (hay.same s') (hx _ rfl) (hy _ rfl))
def yt (f x s:Vbdeab.Q):Option Vbdeab.Q:=if ((f.mul x).add s).small=true then some ((f.mul x).add s) else none
theorem Hy {f x s:Vbdeab.Q} (hx:jf x) (hf:jf f) (hs:jf s):Vbdeab.fraction (x.num*f.num*(s.den:Int)+s.num*((x.den:Int)*(f.den:Int))) ((x.den:Int)*(f.den:Int)*(s.den:Int))=yt f x s:=by
 have z:=(hf.2.iz.mul hx.2.iz).add hs.2.iz
 have p:(0:Int)<(x.den:Int)*(f.den:Int)*(s.den:Int):=eZ (eZ (gt hx.2) (gt hf.2)) (gt hs.2)
 have z2:=z.conv (m:=x.num*f.num*(s.den:Int)+s.num*((x.den:Int)*(f.den:Int))) p (by grind)
 unfold Vbdeab.fraction yt
 rw [←z2.eq]
 by_cases q:((f.mul x).add s).small=true
 ·rw [if_pos q,if_pos ⟨⋯,q⟩]
 ·rw [if_neg q,if_neg fun y=>q y.2]
theorem CV {f x s q:Vbdeab.Q} (hx:jf x) (hf:jf f) (hs:jf s) (h:yt f x s=some q):jf q:=by
 rw [←Hy hx hf hs] at h
 exact nv h
def Hf (T:Tx K mg):Sp:=fun vs H Q _=>∃(a b c:Addr) (x f s:Vbdeab.Q),vs= [.ref a,.ref b,.ref c]∧j2 T H a x∧j2 T H b f∧j2 T H c s∧jf x∧jf f∧jf s∧∀(v:V) (H':Hp),OQ T H' v (yt f x s)→aC H H'→Q v H'
theorem tS (T:Tx K mg):dO P w base T.uT 5 (Hf T):=by
 refine T.uT.okA Aq ?_
 rintro _ A _ s H _ Q E hr
 refine Bg ?_
 rintro a b c x f s rfl U1 U2 U3 hx hf
 rintro⟨hs,k⟩
 obtain⟨da,ha⟩:=U1
 obtain⟨db,hb⟩:=U2
 obtain⟨dc,hc⟩:=U3
 refine⟨_,(ac (aZ 3 Aq.nd (zN (zN (pv 0) T.k6 (oX T) hr (ab (pv 1) ad)) T.rD (AI T) hr (ab (pv 2) ad)))
   (ae (aj (bj T.cN (cr T) hr (ab (ao (pv 3) rfl) (ab (ao (pv 3) rfl) ad)))))),?_⟩
 obtain⟨x1,x2⟩:=cJ hx.1
 obtain⟨f1,f2⟩:=cJ hf.1
 obtain⟨s1,s2⟩:=cJ hs.1
 refine cP _ rfl a da _ rfl ha rfl (fB _ rfl a b (j5 _ _ _ _ rfl ⟨da,ha⟩ ⟨db,hb⟩ (bE x1 f1) (bE x2 f2) fun y H1 ⟨dy,hy⟩ sa=>?_))
 refine h9 y dy _ rfl hy (dt rfl _ rfl (ju y c _ _ _ _ rfl ⟨dy,hy⟩ ⟨dc,sa _ _ hc⟩ (bE (x1.mul f1 (k:=120)) s2) (bE s1 (x2.mul f2 (k:=120))) (bE (x2.mul f2 (k:=120)) s2) fun z H2 ⟨dz,hz⟩ sb=>?_))
 refine aM _ rfl z _ dz _ _ rfl hz T.aA.cl (T.aA.no _ ()) rfl (aM _ rfl z _ dz _ _ rfl hz T.aA.cl (T.aA.no _ ()) rfl (bV _ _ rfl (((x2.mul f2 (k:=120)).mul s2 (k:=180)).mono ()) fun v H3 ho sc=>?_))
 rw [Hy hx hf hs] at ho
 exact k v H3 ho ((sa.trans sb).trans sc)
open Vbdeab (Class)
instance Ro (m:Nat) (x:Int):Decidable (Sz m x):=inferInstanceAs (Decidable (x.natAbs<2 ^ m))
theorem jP {n:Nat} (h:n≤1000000000000000000):Sz 60 (n:Int):=by show((n:Int)).natAbs<_;rw [kr];exact OO h
theorem eI {k m:Nat} (h:k<2 ^ m):Sz m (k:Int):=by show((k:Int)).natAbs<_;rw [kr];exact h
def Fw (T:Tx K mg):Sp:=fun vs H Q _=>∃(a:Addr) (x y:Vbdeab.Q) (t span:Int),vs= [.ref a,.int t,.int span]∧jr T H a (.line x y)∧vw (.line x y)∧Sz 400 t∧Sz 400 span∧∀(z:Addr) (H':Hp),fI T H' z (Fr.Lj (.line x y) t span) (Fr.Os (.line x y) span)→aC H H'→Q (.ref z) H'
theorem E6 (T:Tx K mg):sP mg P w base T.zQ 3 (Fw T):=by
 refine T.zQ.okA Fk ?_
 rintro _ A _ s H _ Q E hr
 refine FL ?_
 rintro a x y t span rfl U1 ok ht hsp k
 refine d7 (fun dx ax ay h1 hax hay=>?_) U1
 refine⟨_,(ae (aj (Ax T.bp (bb T) hr (ab (aB b7 (aB aJ (ao (pv 0) rfl) (pv 2)) (aB aJ (ao (pv 0) rfl) (pv 1))) (ab (aB aJ (ao (pv 0) rfl) (pv 2)) ad))))),?_⟩
 refine nl (fun b0 bz oz rz=>?_) (iT ok)
 refine aM _ rfl a _ dx _ _ rfl h1 T.aP.cl (T.aP.no _ ()) rfl (eu _ rfl _ _ rfl rfl (bE oz hsp) (aM _ rfl a _ dx _ _ rfl h1 T.aP.cl (T.aP.no _ ()) rfl (bJ _ rfl (jt _ _ rfl rfl (bE rz ht) _ _ rfl rfl (aM _ rfl a _ dx _ _ rfl h1 T.aP.cl (T.aP.no _ ()) rfl (eu _ rfl _ _ rfl rfl (bE bz hsp) ?_))))))
 intro z dz nz nd _
 exact dh nz nd (fun H2 e2 s2=>k z H2 ⟨dz,e2⟩ s2) (cK _ _ rfl rfl)
def Fv (T:Tx K mg):Sp:=fun vs H Q _=>∃(a:Addr) (x y:Vbdeab.Q) (n:Nat) (t span:Int),vs= [.ref a,.int t,.int span]∧jr T H a (.comb x y n)∧vw (.comb x y n)∧Sz 400 t∧Sz 400 span∧0<span∧∀(z:Addr) (H':Hp),fI T H' z (Fr.Lj (.comb x y n) t span) (Fr.Os (.comb x y n) span)→aC H H'→Q (.ref z) H'
theorem E5 (T:Tx K mg):sP mg P w base T.zP 3 (Fv T):=by
 refine T.zP.okA Fj ?_
 rintro _ A _ s H _ Q E hr
 refine Bg ?_
 rintro a x y n t span rfl U1 ok ht hsp sp0 k
 refine d7 (fun dx ax ay h1 hax hay=>?_) U1
 refine⟨_,(ae (aj (Ax T.bp (bb T) hr (ab (aB b7 (ao (pv 0) rfl) (aB aJ (ao (pv 0) rfl) (aB cD (aB aJ (pv 1) (ao (pv 0) rfl)) (pv 2)))) (ab (ao (pv 0) rfl) ad))))),?_⟩
 refine nl (fun b0 bz oz rz=>?_) (iT ok)
 have nz':=jP (gf ok).2.2.2
 refine aM _ rfl a _ dx _ _ rfl h1 T.aH.cl (T.aH.no _ ()) rfl (aM _ rfl a _ dx _ _ rfl h1 T.aH.cl (T.aH.no _ ()) rfl (i4 _ rfl _ rfl a _ dx _ _ rfl h1 T.aH.cl (T.aH.no _ ()) rfl (bR _ _ rfl rfl (bE ht nz') (eu _ rfl _ _ rfl rfl (qd sp0 (hsp.mono ())) (jt _ _ rfl rfl (bE rz ((ht.mul nz' (k:=460)).ediv sp0)) _ _ rfl rfl (aM _ rfl a _ dx _ _ rfl h1 T.aH.cl (T.aH.no _ ()) rfl ?_))))))
 intro z dz nz nd _
 exact dh nz nd (fun H2 e2 s2=>k z H2 ⟨dz,e2⟩ s2) (cK _ _ rfl rfl)
def ra (T:Tx K mg):Sp:=fun vs H Q _=>∃(a:Addr) (x y:Vbdeab.Q),vs= [.ref a]∧jr T H a (.line x y)∧∀(p:Addr),H p=none→Q (.ref p) (bT H p (.lst ((shownClass (.line x y)).map V.int)))
theorem qy (T:Tx K mg):sP mg P w base T.iy 1 (ra T):=by
 refine T.iy.okA qQ ?_
 rintro _ A _ s H _ Q E hr
 refine d7 ?_
 rintro a x y rfl U1 k
 refine d7 (fun dx ax ay h1 U2 U3=>?_) U1
 obtain⟨d1,hax⟩:=U2
 obtain⟨d2,hay⟩:=U3
 refine⟨_,(ae (aj (aI (ab am (ab (ao (ao (pv 0) rfl) rfl) (ab (ao (ao (pv 0) rfl) rfl) (ab (ao (ao (pv 0) rfl) rfl) (ab (ao (ao (pv 0) rfl) rfl) (ab am ad))))))))),?_⟩
 exact aM _ rfl a _ dx _ _ rfl h1 T.aP.cl (T.aP.no _ ()) rfl (iK ax _ d1 _ _ rfl hax T.aA.cl (T.aA.no _ ()) rfl (aM _ rfl a _ dx _ _ rfl h1 T.aP.cl (T.aP.no _ ()) rfl (iK ax _ d1 _ _ rfl hax T.aA.cl (T.aA.no _ ()) rfl (aM _ rfl a _ dx _ _ rfl h1 T.aP.cl (T.aP.no _ ()) rfl (iK ay _ d2 _ _ rfl hay T.aA.cl (T.aA.no _ ()) rfl (aM _ rfl a _ dx _ _ rfl h1 T.aP.cl (T.aP.no _ ()) rfl (iK ay _ d2 _ _ rfl hay T.aA.cl (T.aA.no _ ()) rfl ⟨(by show 6≤sizeLine;decide),k⟩)))))))
def qX (T:Tx K mg):Sp:=fun vs H Q _=>∃(a:Addr) (x y:Vbdeab.Q) (n:Nat),vs= [.ref a]∧jr T H a (.comb x y n)∧∀(p:Addr),H p=none→Q (.ref p) (bT H p (.lst ((shownClass (.comb x y n)).map V.int)))
theorem qv (T:Tx K mg):sP mg P w base T.ir 1 (qX T):=by
 refine T.ir.okA qN ?_
 rintro _ A _ s H _ Q E hr
 refine Ja ?_
 rintro a x y n rfl U1 k
 refine d7 (fun dx ax ay h1 U2 U3=>?_) U1
 obtain⟨d1,hax⟩:=U2
 obtain⟨d2,hay⟩:=U3
 refine⟨_,(ae (aj (aI (ab am (ab (ao (ao (pv 0) rfl) rfl) (ab (ao (ao (pv 0) rfl) rfl) (ab (ao (ao (pv 0) rfl) rfl) (ab (ao (ao (pv 0) rfl) rfl) (ab (ao (pv 0) rfl) ad))))))))),?_⟩
 exact aM _ rfl a _ dx _ _ rfl h1 T.aH.cl (T.aH.no _ ()) rfl (iK ax _ d1 _ _ rfl hax T.aA.cl (T.aA.no _ ()) rfl (aM _ rfl a _ dx _ _ rfl h1 T.aH.cl (T.aH.no _ ()) rfl (iK ax _ d1 _ _ rfl hax T.aA.cl (T.aA.no _ ()) rfl (aM _ rfl a _ dx _ _ rfl h1 T.aH.cl (T.aH.no _ ()) rfl (iK ay _ d2 _ _ rfl hay T.aA.cl (T.aA.no _ ()) rfl (aM _ rfl a _ dx _ _ rfl h1 T.aH.cl (T.aH.no _ ()) rfl (iK ay _ d2 _ _ rfl hay T.aA.cl (T.aA.no _ ()) rfl (aM _ rfl a _ dx _ _ rfl h1 T.aH.cl (T.aH.no _ ()) rfl ⟨(by show 6≤sizeLine;decide),k⟩))))))))
def yg (T:Tx K mg):Sp:=fun vs H Q _=>∃(a:Addr) (x y:Vbdeab.Q),vs= [.ref a]∧jr T H a (.line x y)∧vw (.line x y)∧∀(z:Addr) (H':Hp) (n d:Int),fI T H' z n d→Fr.Iz (Fr.AF (.line x y)) n d→Sz 400 n→Sz 400 d→aC H H'→Q (.ref z) H'
theorem xA (T:Tx K mg):sP mg P w base T.mY 1 (yg T):=by
 refine T.mY.okA x9 ?_
 rintro _ A _ s H _ Q E hr
 refine CZ ?_
 rintro a x y rfl U1 ok k
 refine d7 (fun dx ax ay h1 hax hay=>?_) U1
 refine⟨_,(ae (aj (ao (pv 0) rfl))),?_⟩
 obtain⟨hx,hy⟩:=E2 ok
 obtain⟨y1,y2⟩:=cJ hy.1
 exact aM _ rfl a _ dx _ _ rfl h1 T.aP.cl (T.aP.no _ ()) rfl (k ay H _ _ hay hy.2.iz (y1.mono ()) (y2.mono ()) (aC.refl' H))
def ye (T:Tx K mg):Sp:=fun vs H Q _=>∃(a:Addr) (x y:Vbdeab.Q) (n:Nat),vs= [.ref a]∧jr T H a (.comb x y n)∧vw (.comb x y n)∧∀(z:Addr) (H':Hp) (m d:Int),fI T H' z m d→Fr.Iz (Fr.AF (.comb x y n)) m d→Sz 400 m→Sz 400 d→aC H H'→Q (.ref z) H'
theorem xy (T:Tx K mg):sP mg P w base T.mX 3 (ye T):=by
 refine T.mX.okA xZ ?_
 rintro _ A _ s H _ Q E hr
 refine oF ?_
 rintro a x y n rfl U1 ok k
 refine d7 (fun dx ax ay h1 hax hay=>?_) U1
 refine⟨_,(ae (aj (Ax T.bp (bb T) hr (ab (aB b7 (ao (pv 0) rfl) (aB aJ (ao (pv 0) rfl) (aB cb (ao (pv 0) rfl) am))) (ab (ao (pv 0) rfl) ad))))),?_⟩
 refine nl (fun b0 bz oz rz=>?_) (iT ok)
 have nz':=jP (gf ok).2.2.2
 have n1:=(gf ok).2.2.1
 have nz1:Sz 60 ((n:Int) - 1):=nz'.le ⋯
 refine aM _ rfl a _ dx _ _ rfl h1 T.aH.cl (T.aH.no _ ()) rfl (aM _ rfl a _ dx _ _ rfl h1 T.aH.cl (T.aH.no _ ()) rfl (aM _ rfl a _ dx _ _ rfl h1 T.aH.cl (T.aH.no _ ()) rfl (bV _ _ rfl rfl (jt _ _ rfl rfl (bE rz nz1) _ _ rfl rfl (aM _ rfl a _ dx _ _ rfl h1 T.aH.cl (T.aH.no _ ()) rfl ?_)))))
 intro z dz nz nd _
 have iz:=Fr.yr ok.2 (n - 1)
 rw [show((n - 1:Nat):Int)=(n:Int) - 1 by omega] at iz
 exact dh nz nd (fun H2 e2 s2=>k z H2 _ _ ⟨dz,e2⟩ iz ((oz.add (rz.mul nz1 (k:=241)) (k:=400))) (bz.mono ()) s2) (cK _ _ rfl rfl)
def qZ (T:Tx K mg):Sp:=fun vs H Q _=>∃(a:Addr) (x y:Vbdeab.Q),vs= [.ref a]∧jr T H a (.line x y)∧vw (.line x y)∧Q (.int (Fr.FR (.line x y))) H
theorem qx (T:Tx K mg):sP mg P w base T.iw 1 (qZ T):=by
 refine T.iw.okA qP ?_
 rintro _ A _ s H _ Q E hr
 refine CZ ?_
 rintro a x y rfl U1 ok k
 refine d7 (fun dx ax ay h1 hax hay=>?_) U1
 refine⟨_,(ae (aj (aB b7 (aB aJ am (ao (pv 0) rfl)) (ao (pv 0) rfl)))),?_⟩
 refine nl (fun b0 bz oz rz=>?_) (iT ok)
 exact aM _ rfl a _ dx _ _ rfl h1 T.aP.cl (T.aP.no _ ()) rfl (bR _ _ rfl rfl (bE (show Sz 2 2 by decide) oz) (aM _ rfl a _ dx _ _ rfl h1 T.aP.cl (T.aP.no _ ()) rfl (bV _ _ rfl rfl k)))
def qW (T:Tx K mg):Sp:=fun vs H Q _=>∃(a:Addr) (x y:Vbdeab.Q) (n:Nat),vs= [.ref a]∧jr T H a (.comb x y n)∧vw (.comb x y n)∧Q (.int (Fr.FR (.comb x y n))) H
theorem qu (T:Tx K mg):sP mg P w base T.iq 1 (qW T):=by
 refine T.iq.okA qM ?_
 rintro _ A _ s H _ Q E hr
 refine oF ?_
 rintro a x y n rfl U1 ok k
 refine d7 (fun dx ax ay h1 hax hay=>?_) U1
 refine⟨_,(ae (aj (aB b7 (aB aJ am (ao (pv 0) rfl)) (aB aJ (ao (pv 0) rfl) (aB cb (ao (pv 0) rfl) am))))),?_⟩
 refine nl (fun b0 bz oz rz=>?_) (iT ok)
 have nz':=jP (gf ok).2.2.2
 have n1:=(gf ok).2.2.1
 have nz1:Sz 60 ((n:Int) - 1):=nz'.le ⋯
 exact aM _ rfl a _ dx _ _ rfl h1 T.aH.cl (T.aH.no _ ()) rfl (bR _ _ rfl rfl (bE (show Sz 2 2 by decide) oz) (aM _ rfl a _ dx _ _ rfl h1 T.aH.cl (T.aH.no _ ()) rfl (aM _ rfl a _ dx _ _ rfl h1 T.aH.cl (T.aH.no _ ()) rfl (bV _ _ rfl rfl (jt _ _ rfl rfl (bE rz nz1) _ _ rfl rfl k)))))
def oC (T:Tx K mg):Sp:=fun vs H Q _=>∃(a:Addr) (x y:Vbdeab.Q),vs= [.ref a]∧jr T H a (.line x y)∧vw (.line x y)∧Q (.int (Fr.uk (.line x y))) H
theorem oq (T:Tx K mg):sP mg P w base T.gq 1 (oC T):=by
 refine T.gq.okA oA ?_
 rintro _ A _ s H _ Q E hr
 refine CZ ?_
 rintro a x y rfl U1 ok k
 refine d7 (fun dx ax ay h1 hax hay=>?_) U1
 refine⟨_,(ae (aj (aB b7 (aB aJ (aB aJ am (ao (pv 0) rfl)) (aB b7 (ao (pv 0) rfl) (ao (pv 0) rfl))) (aB aJ (aB aJ am (ao (pv 0) rfl)) (ao (pv 0) rfl))))),?_⟩
 refine nl (fun b0 bz oz rz=>?_) (iT ok)
 have o6:=(show Sz 3 6 by decide).mul oz (k:=183)
 have r2:=(show Sz 2 2 by decide).mul rz (k:=183)
 exact aM _ rfl a _ dx _ _ rfl h1 T.aP.cl (T.aP.no _ ()) rfl (bR _ _ rfl rfl (bE (show Sz 3 6 by decide) oz) (aM _ rfl a _ dx _ _ rfl h1 T.aP.cl (T.aP.no _ ()) rfl (aM _ rfl a _ dx _ _ rfl h1 T.aP.cl (T.aP.no _ ()) rfl (bV _ _ rfl rfl (bR _ _ rfl rfl (bE o6 (oz.add rz (k:=182))) (aM _ rfl a _ dx _ _ rfl h1 T.aP.cl (T.aP.no _ ()) rfl (bR _ _ rfl rfl (bE (show Sz 2 2 by decide) rz) (aM _ rfl a _ dx _ _ rfl h1 T.aP.cl (T.aP.no _ ()) rfl (jt _ _ rfl rfl (bE r2 rz) _ _ rfl rfl k)))))))))
def oB (T:Tx K mg):Sp:=fun vs H Q _=>∃(a:Addr) (x y:Vbdeab.Q) (n:Nat),vs= [.ref a]∧jr T H a (.comb x y n)∧vw (.comb x y n)∧Q (.int (Fr.uk (.comb x y n))) H
theorem om (T:Tx K mg):sP mg P w base T.gn 1 (oB T):=by
 refine T.gn.okA iH ?_
 rintro _ A _ s H _ Q E hr
 refine oF ?_
 rintro a x y n rfl U1 ok k
 refine d7 (fun dx ax ay h1 hax hay=>?_) U1
 refine⟨_,(ac (aZ 1 iH.nd (aB aJ (ao (pv 0) rfl) (aB cb (ao (pv 0) rfl) am)))
   (ae (aj (aB b7 (aB aJ (aB aJ am (ao (pv 0) rfl)) (aB b7 (ao (pv 0) rfl) (pv 1))) (aB aJ (aB aJ (ao (pv 0) rfl) (pv 1)) (aB cb (aB aJ am (ao (pv 0) rfl)) am)))))),?_⟩
 refine nl (fun b0 bz oz rz=>?_) (iT ok)
 have nz':=jP (gf ok).2.2.2
 have n1:=(gf ok).2.2.1
 have nz1:Sz 60 ((n:Int) - 1):=nz'.le ⋯
 have n2:Sz 62 (2*(n:Int)):=(show Sz 2 2 by decide).mul nz' (k:=62)
 have o6:=(show Sz 3 6 by decide).mul oz (k:=183)
 have wz:=rz.mul nz1 (k:=241)
 refine aM _ rfl a _ dx _ _ rfl h1 T.aH.cl (T.aH.no _ ()) rfl (aM _ rfl a _ dx _ _ rfl h1 T.aH.cl (T.aH.no _ ()) rfl (bV _ _ rfl rfl (bR _ _ rfl rfl (bE rz nz1) ?_)))
 exact aM _ rfl a _ dx _ _ rfl h1 T.aH.cl (T.aH.no _ ()) rfl (bR _ _ rfl rfl (bE (show Sz 3 6 by decide) oz) (aM _ rfl a _ dx _ _ rfl h1 T.aH.cl (T.aH.no _ ()) rfl (cy _ rfl _ _ rfl rfl (bR _ _ rfl rfl (bE o6 (oz.add wz (k:=242))) (aM _ rfl a _ dx _ _ rfl h1 T.aH.cl (T.aH.no _ ()) rfl (eu _ rfl _ _ rfl rfl (bE rz wz) (aM _ rfl a _ dx _ _ rfl h1 T.aH.cl (T.aH.no _ ()) rfl (jt _ _ rfl rfl (bE (show Sz 2 2 by decide) nz') _ _ rfl rfl (jt _ _ rfl rfl (bE (rz.mul wz (k:=422)) (n2.sub (show Sz 1 1 by decide) (k:=63))) _ _ rfl rfl k)))))))))
theorem Bj {m:Nat} {r:Int} (h:Sz m r):Sz m (Fr.vY r):=by
 refine h.le ?_
 unfold Fr.vY
 split<;>omega
theorem Jh (r:Int):0≤Fr.vY r:=by unfold Fr.vY;split<;>omega
def um (T:Tx K mg):Sp:=fun vs H Q _=>∃(a b:Addr) (x y v:Vbdeab.Q) (st:Int),vs= [.ref a,.ref b,.int st]∧jr T H a (.line x y)∧vw (.line x y)∧j2 T H b v∧jf v∧∀(z:Addr) (H':Hp),fI T H' z (Fr.xJ (.line x y) v.num (v.den:Int) st) (Fr.vE (.line x y) (v.den:Int))→aC H H'→Q (.ref z) H'
theorem tP (T:Tx K mg):sP mg P w base T.jW 3 (um T):=by
 refine T.jW.okA gJ ?_
 rintro _ A _ s H _ Q E hr U
 obtain⟨a,b,x,y,v,st,rfl,U1,ok,U2,okv,k⟩:=U
 refine d7 (fun dx ax ay h1 hax hay=>?_) U1
 obtain⟨dv,hv⟩:=U2
 refine⟨_,(ac (aT (aR rY (ao (pv 0) rfl) am (aY _)) (ae (aj (Ax T.bp (bb T) hr (ab (xL (aR JG (bj T.jZ (lH T) hr (ab (ao (pv 0) rfl) (ab (ao (pv 0) rfl) (ab (pv 1) ad)))) (pv 2) (aY _)) am am) (ab am ad))))) aG)
   (ac (aZ 3 gJ.nd (aB aJ (a9 F0 (by rfl) T.Oh (by rfl) (ab (ao (pv 0) rfl) ad)) (ao (pv 1) rfl)))
   (ac (aZ 4 gJ.nd (bj T.jZ (lH T) hr (ab (a9 (D4 rfl) (by rfl) T.MZ (by rfl) (ab (ao (pv 0) rfl) (ab (aB b7 (ao (pv 0) rfl) (ao (pv 0) rfl)) ad))) (ab (ao (pv 0) rfl) (ab (pv 1) ad)))))
   (ae (aj (Ax T.bp (bb T) hr (ab (bj T.vc (xC T) hr (ab (pv 4) (ab (pv 3) ad))) (ab (pv 3) ad)))))))),?_⟩
 refine nl (fun b0 bz oz rz=>?_) (iT ok)
 obtain⟨v1,v2⟩:=cJ okv.1
 have v0:=gt okv.2
 unfold Fr.xJ Fr.vE at k
 simp only at k
 refine aM _ rfl a _ dx _ _ rfl h1 T.aP.cl (T.aP.no _ ()) rfl (dt rfl _ rfl (aX (fun hr=>?_) (fun hr=>?_)))
 ·have hr':Fr.cR (.line x y)=0:=V.int.inj (bn hr)
  rw [if_pos hr',if_pos hr'] at k
  refine aM _ rfl a _ dx _ _ rfl h1 T.aP.cl (T.aP.no _ ()) rfl (aM _ rfl a _ dx _ _ rfl h1 T.aP.cl (T.aP.no _ ()) rfl (gP _ rfl b v _ _ rfl ⟨dv,hv⟩ okv (oz.mono ()) (bz.mono ()) (lA _ rfl _ _ rfl rfl _ rfl (aX (fun h2=>?_) (fun h2=>?_)))))
  ·have h2':=bn h2
   rw [if_pos h2'] at k
   intro z dz nz nd _
   exact dh nz nd (fun H2 e2 s2=>k z H2 ⟨dz,e2⟩ s2) (cK _ _ rfl rfl)
  ·rw [if_neg fun q=>h2 (aE q)] at k
   intro z dz nz nd _
   exact dh nz nd (fun H2 e2 s2=>k z H2 ⟨dz,e2⟩ s2) (cK _ _ rfl rfl)
 ·have hr':¬Fr.cR (.line x y)=0:=fun q=>hr (aE (cA V.int q))
  rw [if_neg hr',if_neg hr'] at k
  have az:=Bj rz
  refine aM _ rfl a _ dx _ _ rfl h1 T.aP.cl (T.aP.no _ ()) rfl (i4 _ rfl _ rfl b _ dv _ _ rfl hv T.aA.cl (T.aA.no _ ()) rfl (bR _ _ rfl rfl (bE az v2) ?_))
  refine aM _ rfl a _ dx _ _ rfl h1 T.aP.cl (T.aP.no _ ()) rfl (aM _ rfl a _ dx _ _ rfl h1 T.aP.cl (T.aP.no _ ()) rfl (aM _ rfl a _ dx _ _ rfl h1 T.aP.cl (T.aP.no _ ()) rfl (cK _ _ rfl (kQ rfl _ (i4 _ rfl _ rfl a _ dx _ _ rfl h1 T.aP.cl (T.aP.no _ ()) rfl (gP _ rfl b v _ _ rfl ⟨dv,hv⟩ okv ?_ (bz.mono ()) ?_))))))
  ·show Sz 400 (Fr.L5 (Fr.cO (.line x y)) (Fr.cO (.line x y)+Fr.cR (.line x y)))
   unfold Fr.L5
   split
   ·exact oz.add rz (k:=400)
   ·exact oz.mono ()
  ·refine bJ _ rfl (lA _ rfl _ _ rfl (Int.mul_nonneg (Jh _) (fH v0)) _ rfl ?_)
   intro z dz nz nd _
   exact dh nz nd (fun H2 e2 s2=>k z H2 ⟨dz,e2⟩ s2) (cK _ _ rfl rfl)
def ul (T:Tx K mg):Sp:=fun vs H Q _=>∃(a b:Addr) (x y v:Vbdeab.Q) (n:Nat) (st:Int),vs= [.ref a,.ref b,.int st]∧jr T H a (.comb x y n)∧vw (.comb x y n)∧j2 T H b v∧jf v∧∀(z:Addr) (H':Hp),fI T H' z (Fr.xJ (.comb x y n) v.num (v.den:Int) st) (Fr.vE (.comb x y n) (v.den:Int))→aC H H'→Q (.ref z) H'
theorem tO (T:Tx K mg):sP mg P w base T.jV 3 (ul T):=by
 refine T.jV.okA cU ?_
 rintro _ A _ s H _ Q E hr
 refine Bf fun a b=>?_
 refine FL ?_
 rintro x y v n st rfl U1 ok U2 okv k
 refine d7 (fun dx ax ay h1 hax hay=>?_) U1
 obtain⟨dv,hv⟩:=U2
 refine⟨_,(ac (aZ 3 cU.nd (aB cb (bj T.jZ (lH T) hr (ab (ao (pv 0) rfl) (ab (ao (pv 0) rfl) (ab (pv 1) ad)))) (pv 2)))
   (ac (aZ 4 cU.nd (aB aJ (a9 F0 (by rfl) T.Oh (by rfl) (ab (ao (pv 0) rfl) ad)) (ao (pv 1) rfl)))
   (ac (aT (aR rY (ao (pv 0) rfl) am (aY _)) (ae (aZ 5 cU.nd (xL (aR JG (pv 3) am (aY _)) (ao (pv 0) rfl) am))) (ae (aT (aR vD (ao (pv 0) rfl) am (aY _)) (ae (aZ 5 cU.nd (aB b7 (aB cD (pv 3) (pv 4)) am))) (ae (aZ 5 cU.nd (aB b7 (ao (pv 0) rfl) (aB cD (pv 3) (pv 4))))))))
   (ae (aj (Ax T.bp (bb T) hr (ab (bj T.vc (xC T) hr (ab (pv 5) (ab (ao (pv 0) rfl) ad))) (ab (ao (pv 0) rfl) ad)))))))),?_⟩
 refine nl (fun b0 bz oz rz=>?_) (iT ok)
 obtain⟨v1,v2⟩:=cJ okv.1
 have v0:=gt okv.2
 have az:=Bj rz
 have aq:=az.mul v2 (k:=241)
 refine aM _ rfl a _ dx _ _ rfl h1 T.aH.cl (T.aH.no _ ()) rfl (aM _ rfl a _ dx _ _ rfl h1 T.aH.cl (T.aH.no _ ()) rfl (gP _ rfl b v _ _ rfl ⟨dv,hv⟩ okv (oz.mono ()) (bz.mono ()) (cy _ rfl _ _ rfl rfl ?_)))
 refine aM _ rfl a _ dx _ _ rfl h1 T.aH.cl (T.aH.no _ ()) rfl (i4 _ rfl _ rfl b _ dv _ _ rfl hv T.aA.cl (T.aA.no _ ()) rfl (bR _ _ rfl rfl (bE az v2) ?_))
 have fin:∀r:Int,r=Fr.pf (Fr.cR (.comb x y n)) (v.num*Fr.cB (.comb x y n) - Fr.cO (.comb x y n)*(v.den:Int) - st) (Fr.vY (Fr.cR (.comb x y n))*(v.den:Int)) n→∀z:Addr,∀H':Hp,fI T H' z (Fr.gc r n) (n:Int)→aC H H'→Q (.ref z) H':=fun r e z H' h s=>k z H' (by rw [e] at h;exact h) s
 refine aM _ rfl a _ dx _ _ rfl h1 T.aH.cl (T.aH.no _ ()) rfl (dt rfl _ rfl (aX (fun hr=>?_) (fun hr=>?_)))
 ·have hr':Fr.cR (.comb x y n)=0:=V.int.inj (bn hr)
  refine lA _ rfl _ _ rfl rfl _ rfl (aX (fun h2=>?_) (fun h2=>?_))
  ·have h2':=bn h2
   refine aM _ rfl a _ dx _ _ rfl h1 T.aH.cl (T.aH.no _ ()) rfl ?_
   refine i4 _ rfl _ rfl a _ dx _ _ rfl h1 T.aH.cl (T.aH.no _ ()) rfl (bV _ _ rfl ⋯ (aM _ rfl a _ dx _ _ rfl h1 T.aH.cl (T.aH.no _ ()) rfl ?_))
   intro z dz nz nd _
   exact dh nz nd (fun H2 e2 s2=>fin n (by unfold Fr.pf;rw [if_pos hr',if_pos h2']) z H2 ⟨dz,e2⟩ s2) (cK _ _ rfl rfl)
  ·have h2':=fun q=>h2 (aE q)
   refine i4 _ rfl _ rfl a _ dx _ _ rfl h1 T.aH.cl (T.aH.no _ ()) rfl (bV _ _ rfl ⋯ (aM _ rfl a _ dx _ _ rfl h1 T.aH.cl (T.aH.no _ ()) rfl ?_))
   intro z dz nz nd _
   exact dh nz nd (fun H2 e2 s2=>fin 0 (by unfold Fr.pf;rw [if_pos hr',if_neg h2']) z H2 ⟨dz,e2⟩ s2) (cK _ _ rfl rfl)
 ·have hr':¬Fr.cR (.comb x y n)=0:=fun q=>hr (aE (cA V.int q))
  have st0:0<Fr.vY (Fr.cR (.comb x y n))*(v.den:Int):=eZ (Fr.FX hr') v0
  refine aM _ rfl a _ dx _ _ rfl h1 T.aH.cl (T.aH.no _ ()) rfl ⟨_,(eQ _ rfl rfl _ rfl (aX (fun h2=>?_) (fun h2=>?_)))⟩
  ·have h2':0<Fr.cR (.comb x y n):=bn h2
   refine bD _ rfl _ rfl (jt _ _ rfl rfl (qd st0 (aq.mono ())) _ _ rfl rfl ?_)
   refine i4 _ rfl _ rfl a _ dx _ _ rfl h1 T.aH.cl (T.aH.no _ ()) rfl (bV _ _ rfl ⋯ (aM _ rfl a _ dx _ _ rfl h1 T.aH.cl (T.aH.no _ ()) rfl ?_))
   intro z dz nz nd _
   exact dh nz nd (fun H2 e2 s2=>fin _ (by unfold Fr.pf;rw [if_neg hr',if_pos h2'];rfl) z H2 ⟨dz,e2⟩ s2) (cK _ _ rfl rfl)
  ·have h2':¬0<Fr.cR (.comb x y n):=fun q=>h2 (aE q)
   refine aM _ rfl a _ dx _ _ rfl h1 T.aH.cl (T.aH.no _ ()) rfl (bD _ rfl _ rfl (jt _ _ rfl rfl (qd st0 (aq.mono ())) _ _ rfl rfl ?_))
   refine i4 _ rfl _ rfl a _ dx _ _ rfl h1 T.aH.cl (T.aH.no _ ()) rfl (bV _ _ rfl ⋯ (aM _ rfl a _ dx _ _ rfl h1 T.aH.cl (T.aH.no _ ()) rfl ?_))
   intro z dz nz nd _
   exact dh nz nd (fun H2 e2 s2=>fin _ (by unfold Fr.pf;rw [if_neg hr',if_neg h2'];rfl) z H2 ⟨dz,e2⟩ s2) (cK _ _ rfl rfl)
def tG (f s:Vbdeab.Q) (c:Class):Option Class:=Kd.sm (some (c.bent f s))
theorem J8 (f s x y:Vbdeab.Q):Kd.j8 (yt f x s) (yt f y s)=tG f s (.line x y):=by
 show _=(if ((Class.line ((f.mul x).add s) ((f.mul y).add s)).small)=true then some (Class.line ((f.mul x).add s) ((f.mul y).add s)) else none)
 have e:(Class.line ((f.mul x).add s) ((f.mul y).add s)).small=(((f.mul x).add s).small && ((f.mul y).add s).small):=rfl
 rw [e]
 unfold yt
 cases ((f.mul x).add s).small<;>cases ((f.mul y).add s).small<;>rfl
def L7 (f x:Vbdeab.Q):Option Vbdeab.Q:=if (f.mul x).small=true then some (f.mul x) else none
theorem JD {f x:Vbdeab.Q} (hx:jf x) (hf:jf f):Vbdeab.fraction (x.num*f.num) ((x.den:Int)*(f.den:Int))=L7 f x:=by
 have z:=hf.2.iz.mul hx.2.iz
 have p:(0:Int)<(x.den:Int)*(f.den:Int):=eZ (gt hx.2) (gt hf.2)
 have z2:=z.conv (m:=x.num*f.num) p (by grind)
 unfold Vbdeab.fraction L7
 rw [←z2.eq]
 by_cases q:(f.mul x).small=true
 ·rw [if_pos q,if_pos ⟨⋯,q⟩]
 ·rw [if_neg q,if_neg fun y=>q y.2]
theorem Nu {f x q:Vbdeab.Q} (hx:jf x) (hf:jf f) (h:L7 f x=some q):jf q:=by
 rw [←JD hx hf] at h
 exact nv h
theorem J7 (f s x y:Vbdeab.Q) {n:Nat} (h1:1≤n) (h2:n≤1000000000000000000):Kd.nu (yt f x s) (L7 f y) n=tG f s (.comb x y n):=by
 show _=(if ((Class.comb ((f.mul x).add s) (f.mul y) n).small)=true then some (Class.comb ((f.mul x).add s) (f.mul y) n) else none)
 have e:(Class.comb ((f.mul x).add s) (f.mul y) n).small=(((f.mul x).add s).small && (f.mul y).small && decide (1≤n) && decide (n≤Vbdeab.BIG)):=rfl
 rw [e,aE h1,aE (show n≤Vbdeab.BIG from h2)]
 have c:(1≤(n:Int)∧(n:Int)≤1000000000000000000):=by omega
 unfold yt L7
 cases ((f.mul x).add s).small<;>cases (f.mul y).small<;>first | rfl | skip
 show(if 1≤(n:Int)∧(n:Int)≤1000000000000000000 then some (Class.comb ((f.mul x).add s) (f.mul y) (n:Int).toNat) else none)=_
 rw [if_pos c]
 rfl
def CI (T:Tx K mg):Sp:=fun vs H Q _=>∃(a b c:Addr) (x y f s:Vbdeab.Q),vs= [.ref a,.ref b,.ref c]∧jr T H a (.line x y)∧vw (.line x y)∧j2 T H b f∧j2 T H c s∧jf f∧jf s∧∀(v:V) (H':Hp),EI T H' v (tG f s (.line x y))→aC H H'→Q v H'
theorem BW (T:Tx K mg):sP mg P w base T.uP 6 (CI T):=by
 refine T.uP.okA Cq ?_
 rintro _ A _ s H _ Q E hr
 refine Jb ?_
 rintro a b c x y f s rfl U1 ok hb hc okf
 rintro⟨oks,k⟩
 refine d7 (fun dx ax ay h1 hax hay=>?_) U1
 refine⟨_,(ae (aj (bj T.pU (qC T) hr (ab (bj T.uT (tS T) hr (ab (ao (pv 0) rfl) (ab (pv 1) (ab (pv 2) ad)))) (ab (bj T.uT (tS T) hr (ab (ao (pv 0) rfl) (ab (pv 1) (ab (pv 2) ad)))) ad))))),?_⟩
 obtain⟨hx,hy⟩:=E2 ok
 refine aM _ rfl a _ dx _ _ rfl h1 T.aP.cl (T.aP.no _ ()) rfl (bD _ rfl _ rfl (ju ax b c x f s rfl hax hb hc hx okf ⟨oks,(fun v1 H1 o1 s1=>?_)⟩))
 refine aM _ rfl a _ dx _ _ rfl (s1 _ _ h1) T.aP.cl (T.aP.no _ ()) rfl (bD _ rfl _ rfl (ju ay b c y f s rfl (hay.same s1) (hb.same s1) (hc.same s1) hy okf ⟨oks,(fun v2 H2 o2 s2=>?_)⟩))
 refine j5 v1 v2 _ _ rfl (o1.same s2) o2 (fun q hq=>CV hx okf oks hq) (fun q hq=>CV hy okf oks hq) fun r H3 o3 s3=>?_
 rw [J8] at o3
 exact k r H3 o3 ((s1.trans s2).trans s3)
def CD (T:Tx K mg):Sp:=fun vs H Q _=>∃(a b c:Addr) (x y f s:Vbdeab.Q) (n:Nat),vs= [.ref a,.ref b,.ref c]∧jr T H a (.comb x y n)∧vw (.comb x y n)∧j2 T H b f∧j2 T H c s∧jf f∧jf s∧∀(v:V) (H':Hp),EI T H' v (tG f s (.comb x y n))→aC H H'→Q v H'
theorem BU (T:Tx K mg):sP mg P w base T.uN 6 (CD T):=by
 refine T.uN.okA ug ?_
 rintro _ A _ s H _ Q E hr U
 obtain⟨a,b,c,x,y,f,s,n,rfl,U1,ok,hb,hc,okf,oks,k⟩:=U
 refine d7 (fun dx ax ay h1 hax hay=>?_) U1
 refine⟨_,(ac (aZ 3 ug.nd (zN (ao (pv 0) rfl) T.k6 (oX T) hr (ab (pv 1) ad)))
   (ae (aj (bj T.mj (lZ T) hr (ab (bj T.uT (tS T) hr (ab (ao (pv 0) rfl) (ab (pv 1) (ab (pv 2) ad)))) (ab (bj T.cN (cr T) hr (ab (ao (pv 3) rfl) (ab (ao (pv 3) rfl) ad))) (ab (ao (pv 0) rfl) ad))))))),?_⟩
 refine nl (fun hx hy n1 n2=>?_) (gf ok)
 obtain⟨y1,y2⟩:=cJ hy.1
 obtain⟨f1,f2⟩:=cJ okf.1
 obtain⟨dy,hay'⟩:=id hay
 refine aM _ rfl a _ dx _ _ rfl h1 T.aH.cl (T.aH.no _ ()) rfl (bY ay dy _ rfl hay' rfl (fB _ rfl ay b (j5 _ _ _ _ rfl hay hb (bE y1 f1) (bE y2 f2) fun g H1 ⟨dg,hg⟩ s1=>?_)))
 refine aM _ rfl a _ dx _ _ rfl (s1 _ _ h1) T.aH.cl (T.aH.no _ ()) rfl (bD _ rfl _ rfl (ju ax b c x f s rfl (hax.same s1) (hb.same s1) (hc.same s1) hx okf ⟨oks,(fun v1 H2 o1 s2=>?_)⟩))
 refine aM _ rfl g _ dg _ _ rfl (s2 _ _ hg) T.aA.cl (T.aA.no _ ()) rfl (aM _ rfl g _ dg _ _ rfl (s2 _ _ hg) T.aA.cl (T.aA.no _ ()) rfl (bV _ _ rfl ((y2.mul f2 (k:=120)).mono ()) fun v2 H3 o2 s3=>?_))
 rw [JD hy okf] at o2
 refine aM _ rfl a _ dx _ _ rfl (s3 _ _ (s2 _ _ (s1 _ _ h1))) T.aH.cl (T.aH.no _ ()) rfl (iK v1 v2 _ _ n rfl (o1.same s3) o2 (fun q hq=>CV hx okf oks hq) (fun q hq=>Nu hy okf hq) fun r H4 o4 s4=>?_)
 rw [J7 f s x y n1 n2] at o4
 exact k r H4 o4 (((s1.trans s2).trans s3).trans s4)
open Vbdeab (Class Dist)
def dJ (l:List Nat):List V:=(nats l).map V.int
theorem bf (l:List Nat):(dJ l).length=l.length:=by unfold dJ nats;rw [aD,aD]
theorem EY {l:List Nat} {i n:Nat} (h:l[i]?=some n):(dJ l)[i]?=some (.int (n:Nat)):=by unfold dJ nats;rw [du,du,h];rfl
theorem qk {l:List Nat} {i:Nat} {v:V} (h:(dJ l)[i]?=some v):∃n,l[i]?=some n∧v= .int (n:Nat):=by
 unfold dJ nats at h
 rw [du,du] at h
 cases e:l[i]? with
 | none=>rw [e] at h;cases h
 | some n=>rw [e] at h;cases h;exact⟨n,rfl,rfl⟩
theorem gz (l:List Nat) (n:Nat):dJ l++ [V.int (n:Nat)]=dJ (l++ [n]):=by unfold dJ nats;rw [dB,dB];rfl
theorem iX {α:Type} (f:Nat→α) (n:Nat):(List.range (n+1)).map f=(List.range n).map f++ [f n]:=by rw [List.range_succ,dB];rfl
theorem Gw (l:List Nat):(nats l).sum=((Vbdeab.sum l:Nat):Int):=by
 induction l with
 | nil=>rfl
 | cons a r ih=>show((a:Int)+(nats r).sum)=_;rw [ih,Ch.sum_cons,pT]
theorem Av (l:List Nat) (i:Nat):Vbdeab.sum (l.take i)≤Vbdeab.sum l:=by
 have:=Ch.sum_append (l.take i) (l.drop i)
 rw [List.take_append_drop] at this
 omega
theorem rV {n:Nat} (h:n≤10 ^ 40):n<2 ^ 133:=oe h ()
def Lx (ws:List Nat):List Nat:=(List.range ws.length).map fun i=>Vbdeab.sum (ws.take i)
def xo (ws:List Nat):List Nat:=(List.range ws.length).map fun i=>ceilDiv (Vbdeab.M*Vbdeab.sum (ws.take (i+1))) (Vbdeab.sum ws)
def Rl (wl sl:Addr) (W:Nat) (bl el:Addr):List (Str×V):= [("weights",.ref wl),("shapes",.ref sl),("total",.int (W:Nat)),("before",.ref bl),("ends",.ref el)]
structure Oi (d:Dist):Prop where
 len1:1≤d.length
 len2:d.length≤64
 tot1:1≤total d
 tot2:total d≤10 ^ 40
 cls:∀c∈d,vw c.2
theorem Oi.low {d:Dist} (h:Oi d):∀c∈d,Fr.j3 c.2:=fun c hc=>(h.cls c hc).2
structure DV (T:Tx K mg) (av:List Addr) (H:Hp) (a:Addr) (d:Dist) (dx wl sl bl el:Addr) (as:List Addr):Prop where
 inst:H a=some (.ins T.ai.C dx (Rl wl sl (total d) bl el))
 w:H wl=some (.lst (dJ (d.map fun c=>c.1)))
 s:H sl=some (.lst (as.map V.ref))
 b:H bl=some (.lst (dJ (Lx (d.map fun c=>c.1))))
 e:H el=some (.lst (dJ (xo (d.map fun c=>c.1))))
 len:as.length=d.length
 sh:∀(i:Nat) x c,as[i]?=some x→d[i]?=some c→jr T H x c.2
 nw:wl ∉ av
 ns:sl ∉ av
 nb:bl ∉ av
 ne:el ∉ av
 ok:Oi d
def fb (T:Tx K mg) (av:List Addr) (H:Hp) (a:Addr) (d:Dist):Prop:=∃dx wl sl bl el as,DV T av H a d dx wl sl bl el as
def QG (fs:List (Str×V)):Bool:=match fs with
 | (n,_)::_=>n=="top" || n=="x" || n=="weights"
 | []=>false
structure KP (av:List Addr) (H H':Hp):Prop where
 i:∀b C dx fs,H b=some (.ins C dx fs)→QG fs=true→H' b=some (.ins C dx fs)
 l:∀b xs,H b=some (.lst xs)→b ∉ av→H' b=some (.lst xs)
theorem KP.same {av:List Addr} {H H':Hp} (s:aC H H'):KP av H H':=⟨fun b C dx fs e _=>s _ _ e,fun b xs e _=>s _ _ e⟩
theorem KP.rt {av:List Addr} {T:Tx K mg} {H H':Hp} {a:Addr} {n d:Int} (s:KP av H H') (h:fI T H a n d):fI T H' a n d:=let ⟨dx,e⟩:=h;⟨dx,s.i _ _ _ _ e rfl⟩
theorem KP.sh {av:List Addr} {T:Tx K mg} {H H':Hp} {a:Addr} {c:Class} (s:KP av H H') (h:jr T H a c):jr T H' a c:=by
 cases c with
 | line x y=>refine d7 (fun dx ax ay e h1 h2=>?_) h;exact h9 dx ax ay (s.i _ _ _ _ e rfl) (s.rt h1) (s.rt h2)
 | comb x y n=>refine d7 (fun dx ax ay e h1 h2=>?_) h;exact h9 dx ax ay (s.i _ _ _ _ e rfl) (s.rt h1) (s.rt h2)
theorem DV.kp {T:Tx K mg} {av:List Addr} {H H':Hp} {a:Addr} {d:Dist} {dx wl sl bl el:Addr} {as:List Addr} (h:DV T av H a d dx wl sl bl el as) (s:KP av H H'):DV T av H' a d dx wl sl bl el as:=
 ⟨s.i _ _ _ _ h.inst rfl,s.l _ _ h.w h.nw,s.l _ _ h.s h.ns,s.l _ _ h.b h.nb,s.l _ _ h.e h.ne,h.len,fun i x c h1 h2=>s.sh (h.sh i x c h1 h2),h.nw,h.ns,h.nb,h.ne,h.ok⟩
theorem fb.kp {T:Tx K mg} {av:List Addr} {H H':Hp} {a:Addr} {d:Dist} (h:fb T av H a d) (s:KP av H H'):fb T av H' a d:=let ⟨dx,wl,sl,bl,el,as,v⟩:=h;(oE dx wl (oE sl bl (oE el as (v.kp s))))
theorem fb.same {T:Tx K mg} {av:List Addr} {H H':Hp} {a:Addr} {d:Dist} (h:fb T av H a d) (s:aC H H'):fb T av H' a d:=h.kp (.same s)
def je (T:Tx K mg) (av:List Addr) (H:Hp) (v:V) (o:Option Dist):Prop:=match o with
 | none=>v= .non
 | some d=>∃x,v= .ref x∧fb T av H x d
theorem je.kp {T:Tx K mg} {av:List Addr} {H H':Hp} {v:V} {o:Option Dist} (h:je T av H v o) (s:KP av H H'):je T av H' v o:=by
 cases o with
 | none=>exact h
 | some d=>refine a4 (fun x e h=>?_) h;exact⟨x,e,h.kp s⟩
theorem eF {av:List Addr} {H:Hp} (h:∀b∈av,H b≠none) {p:Addr} (hp:H p=none):p ∉ av:=fun m=>h p m hp
def Bb (T:Tx K mg):Sp:=fun vs H Q _=>∃(a W:Nat),vs= [.int a,.int W]∧0<W∧W<2 ^ 9000∧Q (.int (ceilDiv a W:Nat)) H
theorem AO (T:Tx K mg):dO P w base T.rM 1 (Bb T):=by
 refine T.rM.okA AV ?_
 rintro _ A _ s H _ Q E hr
 refine tp ?_
 rintro a W rfl hW hz k
 refine⟨_,(ae (aj (JJ FH (aB cD (JJ FH (pv 0)) (pv 1))))),?_⟩
 refine bJ _ rfl (eY _ rfl _ rfl _ _ rfl rfl (dt (qd ⋯ (eI hz)) _ rfl ?_))
 rw [←Fr.LB hW] at k
 exact k
def zJ (T:Tx K mg):Sp:=fun vs H Q _=>∃(a:Addr) (ws:List Nat),vs= [.ref a]∧a5 K H a (dJ ws)∧ws.length≤2000∧∀(H':Hp) (p:Addr),H' p=some (.lst (dJ (Lx ws)))→aC H H'→H p=none→Q (.ref p) H'
theorem yT (T:Tx K mg):dO P w base T.oM 1 (zJ T):=by
 refine T.oM.okA fA ?_
 rintro _ A _ s H _ Q E hr
 refine tp ?_
 rintro a ws rfl hs hl k
 refine⟨_,(ac (aZ 1 fA.nd (aI ad))
   (ac (aZ 2 fA.nd am)
   (ac (eh cM rfl (cF (pv 0)) (kZ 3 fA.nd) (ac (gw (rZ lM uG uH jg (pv 1) (ab (pv 2) ad)))
   (ae (ou (i:=2) fA.nd rfl (Or.inl rfl) (pv 3) mw))))
   (ae (aj (pv 1)))))),?_⟩
 refine⟨bo _,fun D hD=>?_⟩
 have sD:=aC.laid (o:= .lst []) hD
 refine pO _ rfl a rfl ⟨_,sD.seq hs⟩ (eE (xs:=dJ ws) (fun i σ H'=>i≤ws.length∧∃(v:Option V),σ= [some (.ref a),some (.ref D),some (.int (Vbdeab.sum (ws.take i):Nat)),v]∧H' D=some (.lst (dJ ((List.range i).map fun j=>Vbdeab.sum (ws.take j))))∧aC H H') (mU (bo _) none rfl af sD) (fun i σ H' _ ⟨_,_,_,_,s⟩=>s.seq hs) ?_ ?_)
 ·rintro i v σ H1 hv
  refine pQ ?_
  rintro hi w1 rfl h1 s1
  refine a4 ?_ (qk hv)
  rintro x hx rfl
  have hi':=(cg.mp hx).1
  refine eQ _ rfl (.inl ⟨rfl,_,a5.of h1⟩) _ rfl (i5 D _ _ rfl rfl h1 (by rw [bf,aD,ft];show i<2 ^ 24;omega) ?_)
  refine eY _ rfl _ rfl _ _ rfl rfl (mU hi' _ (by rw [Ch.eC hx,pT];rfl) ?_ fun b o e=>?_)
  ·rw [af,gz,iX]
  ·rw [ak (aw e hD)]
   exact s1 b o e
 ·rintro σ H1
  refine pQ ?_
  rintro hi w1 rfl h1 s1
  rw [bf] at h1
  exact⟨_,rfl,k H1 D h1 s1 hD⟩
def DM (T:Tx K mg):Sp:=fun vs H Q _=>∃(a:Addr) (ws:List Nat),vs= [.ref a]∧a5 K H a (dJ ws)∧ws.length≤2000∧0<Vbdeab.sum ws∧Vbdeab.sum ws≤10 ^ 40∧∀(H':Hp) (p:Addr),H' p=some (.lst (dJ (xo ws)))→aC H H'→H p=none→Q (.ref p) H'
theorem Dx (T:Tx K mg):dO P w base T.xa 2 (DM T):=by
 refine T.xa.okA fZ ?_
 rintro _ A _ s H _ Q E hr
 refine Bf fun a ws=>?_
 refine rA ?_
 rintro rfl hs hl hs1 hs2 k
 refine⟨_,(ac (aZ 1 fZ.nd (aI ad))
   (ac (aZ 2 fZ.nd (a9 (EQ rfl) (by rfl) T.J4 (by rfl) (ab (pv 0) ad)))
   (ac (aZ 3 fZ.nd am)
   (ac (eh cM rfl (cF (pv 0)) (kZ 4 fZ.nd) (ac (ou (i:=3) fZ.nd rfl (Or.inl rfl) (pv 4) mw)
   (ae (gw (rZ lM uG uH jg (pv 1) (ab (bj T.rM (AO T) hr (ab (aB aJ (fk T.dN) (pv 3)) (ab (pv 2) ad))) ad))))))
   (ae (aj (pv 1))))))),?_⟩
 refine⟨bo _,fun D hD=>?_⟩
 have sD:=aC.laid (o:= .lst []) hD
 refine cy _ rfl a (nats ws) rfl (sD.seq hs) ?_
 rw [Gw]
 refine pO _ rfl a rfl ⟨_,sD.seq hs⟩ (eE (xs:=dJ ws) (fun i σ H'=>i≤ws.length∧∃(v:Option V),σ= [some (.ref a),some (.ref D),some (.int (Vbdeab.sum ws:Nat)),some (.int (Vbdeab.sum (ws.take i):Nat)),v]∧H' D=some (.lst (dJ ((List.range i).map fun j=>ceilDiv (Vbdeab.M*Vbdeab.sum (ws.take (j+1))) (Vbdeab.sum ws))))∧aC H H') (mU (bo _) none rfl af sD) (fun i σ H' _ ⟨_,_,_,_,s⟩=>s.seq hs) ?_ ?_)
 ·rintro i v σ H1 hv
  refine pQ ?_
  rintro hi w1 rfl h1 s1
  refine a4 ?_ (qk hv)
  rintro x hx rfl
  have hi':=(cg.mp hx).1
  refine eY _ rfl _ rfl _ _ rfl rfl ?_
  have esum:((Vbdeab.sum (ws.take i):Nat):Int)+(x:Int)=((Vbdeab.sum (ws.take (i+1)):Nat):Int):=by rw [Ch.eC hx,pT]
  have hle:=Av ws (i+1)
  refine df _ rfl (.inl ⟨rfl,_,a5.of h1⟩) (eu _ rfl _ _ rfl rfl (bE (show Sz 34 4294967296 by decide) (?_:Sz 133 _)) (eu _ rfl (Vbdeab.M*Vbdeab.sum (ws.take (i+1))) (Vbdeab.sum ws) ?_ hs1 (Nat.lt_trans (rV hs2) (by decide+kernel)) (i5 D _ _ rfl rfl h1 (by rw [bf,aD,ft];show i<2 ^ 24;omega) ?_)))
  ·show Sz 133 (((Vbdeab.sum (ws.take i):Nat):Int)+(x:Int))
   rw [esum]
   exact eI (rV ⋯)
  ·show [V.int (4294967296*(((Vbdeab.sum (ws.take i):Nat):Int)+(x:Int))),V.int (Vbdeab.sum ws:Nat)]++ []=_
   rw [esum,b9]
   rfl
  ·refine mU hi' _ (by rw [←esum];rfl) ?_ fun b o e=>?_
   ·rw [af,gz,iX]
   ·rw [ak (aw e hD)]
    exact s1 b o e
 ·rintro σ H1
  refine pQ ?_
  rintro hi w1 rfl h1 s1
  rw [bf] at h1
  exact⟨_,rfl,k H1 D h1 s1 hD⟩
def qY (T:Tx K mg):Sp:=fun vs H Q _=>∃(p dx wl sl:Addr) (ws:List Nat),vs= [.ref p,.ref wl,.ref sl]∧H p=some (.ins T.ai.C dx [])∧H wl=some (.lst (dJ ws))∧ws.length≤64∧0<Vbdeab.sum ws∧Vbdeab.sum ws≤10 ^ 40∧
 ∀(H':Hp) (bl el:Addr),H' p=some (.ins T.ai.C dx (Rl wl sl (Vbdeab.sum ws) bl el))→H' bl=some (.lst (dJ (Lx ws)))→H' el=some (.lst (dJ (xo ws)))→H bl=none→H el=none→(∀b o,H b=some o→b≠p→H' b=some o)→Q .non H'
theorem qw (T:Tx K mg):sP mg P w base T.iu 3 (qY T):=by
 refine T.iu.okA qO ?_
 rintro _ A _ s H _ Q E hr U
 obtain⟨p,dx,wl,sl,ws,rfl,hp,hw,hl,hs1,hs2,k⟩:=U
 refine⟨_,(ac (cv (pv 0) (pv 1) rfl)
   (ac (cv (pv 0) (pv 2) rfl)
   (ac (cv (pv 0) (a9 (EQ rfl) (by rfl) T.J4 (by rfl) (ab (pv 1) ad)) rfl)
   (ac (cv (pv 0) (bj T.oM (yT T) hr (ab (pv 1) ad)) rfl)
   (ae (cv (pv 0) (bj T.xa (Dx T) hr (ab (pv 1) ad)) rfl)))))),?_⟩
 have nwp:wl≠p:=bg hw hp (by intro z;cases z)
 refine pP _ rfl _ rfl p _ dx _ rfl hp T.ai.cl (T.ai.no _ ()) (by show 0<1000;decide) ?_
 refine pP _ rfl _ rfl p _ dx _ rfl af T.ai.cl (T.ai.no _ ()) (by show 1<1000;decide) ?_
 refine cy _ rfl wl (nats ws) rfl (a5.of (by rw [ak nwp,ak nwp];exact hw)) ?_
 rw [Gw]
 refine gP _ rfl p _ dx _ rfl af T.ai.cl (T.ai.no _ ()) (by show 2<1000;decide) ?_
 refine eu _ rfl wl ws rfl (a5.of (by rw [ak nwp,ak nwp,ak nwp];exact hw)) ⋯ fun H1 bl hb s1 nb=>?_
 have hp1:=s1 _ _ (af (a:=p))
 have npb:bl≠p:=bg hb hp1 (by intro z;cases z)
 refine gP _ rfl p _ dx _ rfl hp1 T.ai.cl (T.ai.no _ ()) (by show 3<1000;decide) ?_
 have hw2:∀o,bT H1 p o wl=some (.lst (dJ ws)):=fun o=>by rw [ak nwp];exact s1 _ _ (by rw [ak nwp,ak nwp,ak nwp];exact hw)
 refine cy _ rfl wl ws rfl (a5.of (hw2 _)) (b8 ⋯ hs1 hs2 fun H2 el he s2 ne=>?_)
 have hp2:=s2 _ _ (af (a:=p))
 have npe:el≠p:=bg he hp2 (by intro z;cases z)
 refine gP _ rfl p _ dx _ rfl hp2 T.ai.cl (T.ai.no _ ()) (by show 4<1000;decide) ?_
 have nb':H bl=none:=by rw [ak npb,ak npb,ak npb] at nb;exact nb
 have ne':H el=none:=by
  cases q:H el with
  | none=>rfl
  | some o=>
   rw [ak npe] at ne
   rw [s1 _ _ (by rw [ak npe,ak npe,ak npe];exact q)] at ne
   cases ne
 refine k _ bl el af ?_ ?_ nb' ne' fun b o e hne=>?_
 ·rw [ak npb]
  exact s2 _ _ (by rw [ak npb];exact hb)
 ·rw [ak npe]
  exact he
 ·rw [ak hne]
  exact s2 _ _ (by rw [ak hne];exact s1 _ _ (by rw [ak hne,ak hne,ak hne];exact e))
theorem LE {a:List Int} {os:List (Option Class)} {d:Dist} (h:Kd.xh a os=some d) (hl:os.length=a.length):∃ws l,weights a=some ws∧os=l.map some∧d=ws.zip l∧d.map (fun c=>c.1)=ws∧a=nats ws∧ws.length=l.length:=by
 unfold Kd.xh at h
 cases hw:weights a with
 | none=>rw [hw] at h;cases h
 | some ws=>
  cases ho:Kd.a7 os with
  | none=>rw [hw,ho] at h;cases h
  | some l=>
   rw [hw,ho] at h
   cases h
   refine gk (fun e1 _ nn=>?_) (Kd.wP hw)
   have l1:=Kd.qF ho
   have e2:ws.length=l.length:=by rw [e1,aD];omega
   refine bV ws l rfl (Kd.wo ho) (b8 rfl (Kd.Bu e2) ?_ e2)
   rw [e1]
   unfold nats
   rw [fu]
   conv=>lhs;rw [←List.map_id a]
   refine oa fun x hx=>?_
   show x=((x.toNat:Nat):Int)
   have:=nn x hx
   omega
def jq (T:Tx K mg) (H:Hp) (vs:List V) (os:List (Option Class)):Prop:=vs.length=os.length∧∀(i:Nat) v o,vs[i]?=some v→os[i]?=some o→EI T H v o
theorem jq.si {T:Tx K mg} {H H':Hp} {vs:List V} {os:List (Option Class)} (h:jq T H vs os) (s:ib H H'):jq T H' vs os:=⟨h.1,fun i v o a b=>(h.2 i v o a b).si s⟩
theorem jq.snoc {T:Tx K mg} {H:Hp} {vs:List V} {os:List (Option Class)} {v:V} {o:Option Class} (h:jq T H vs os) (k:EI T H v o):jq T H (vs++ [v]) (os++ [o]):=by
 refine⟨by rw [bZ,bZ,h.1];rfl,fun i v' o' a b=>?_⟩
 rcases C0 i vs.length with q | q | q
 ·rw [n8 q] at a
  rw [n8 (by rw [←h.1];exact q)] at b
  exact h.2 i v' o' a b
 ·rw [q,n9 (bq _),uF] at a
  rw [q,h.1,n9 (bq _),uF] at b
  cases a
  cases b
  exact k
 ·rw [uK (by rw [bZ];exact q)] at a
  cases a
theorem z5:∀{os:List (Option Class)},(∀o∈os,∃c,o=some c)→∃l:List Class,os=l.map some
 | [],_=>⟨[],rfl⟩
 | o::r,h=>by
  obtain⟨c,rfl⟩:=h o fD
  obtain⟨l,rfl⟩:=z5 (os:=r) fun o ho=>h o (dX _ ho)
  exact⟨c::l,rfl⟩
theorem KT {T:Tx K mg} {H:Hp} {v:V} {o:Option Class} (h:EI T H v o):decide (v= .non)=o.isNone:=by
 cases o with
 | none=>rw [show v= .non from h];rfl
 | some c=>refine a4 ?_ h;rintro x rfl _;rfl
theorem JN {T:Tx K mg} {H:Hp}:∀{vs:List V} {l:List Class},jq T H vs (l.map some)→∃as:List Addr,vs=as.map V.ref∧as.length=l.length∧(∀(i:Nat) x c,as[i]?=some x→l[i]?=some c→jr T H x c)∧∀c∈l,vw c
 | [],[],_=>⟨[],(b8 rfl rfl (fun i x c a _=>(by cases i<;>cases a)) fun c hc=>(nomatch hc))⟩
 | v::vs,c::l,h=>by
  refine NZ (fun as e hl hs hk=>?_) (JN (vs:=vs) (l:=l) ⟨by have:=h.1;simpa using this,fun i v o a b=>h.2 (i+1) v o (by simpa using a) (by simpa using b)⟩)
  refine lB ?_ (h.2 0 v (some c) rfl rfl)
  rintro x rfl sh ok
  refine⟨x::as,(b8 (by rw [e];rfl) (by rw [d8,hl];rfl) (fun i y c' a b=>?_) fun c' hc=>?_)⟩
  ·cases i with
   | zero=>cases a;cases b;exact sh
   | succ i=>exact hs i y c' (by simpa using a) (by simpa using b)
  ·rcases cH.mp hc with q | q
   ·rw [q];exact ok
   ·exact hk c' q
 | [],_::_,h=>by have:=h.1;simp at this
 | _::_,[],h=>by have:=h.1;simp at this
def lz (T:Tx K mg):Sp:=fun vs H Q _=>∃(av:List Addr) (wl sl:Addr) (a:List Int) (ss:List V) (os:List (Option Class)),vs= [.ref wl,.ref sl]∧H wl=some (.lst (a.map V.int))∧H sl=some (.lst ss)∧jq T H ss os∧os.length=a.length∧a.length≤8000∧wl ∉ av∧sl ∉ av∧(∀b∈av,H b≠none)∧∀(v:V) (H':Hp),je T av H' v (Kd.xh a os)→aC H H'→Q v H'
theorem cT (T:Tx K mg):dO P w base T.cI 5 (lz T):=by
 refine T.cI.okA gM ?_
 rintro _ A _ s H _ Q E hr
 refine Bg ?_
 rintro av wl sl a ss os rfl hw hs hsh hlen ha
 refine nl fun nw nsl hav k=>?_
 refine⟨_,(ac (aT (aV (aS (bj T.iL (kF T) hr (ab (pv 0) ad)))) (ae (aj de)) aG)
   (ac (aT (aS (a9 (Ox rfl) (by rfl) T.Qm (by rfl) (ab (j9 (own:= [("shape",2)]) rfl gM.nd (cF (pv 1)) (ci (N:= ["weights","shapes","shape"]) (sc:=ag il) (by decide+kernel)) (fun _ _ _ _ _=>(kZ 2 gM.nd)) (fun _ _ _ _ _=>dS) (fun _ _ _ _ _=>(Fc kH (pv 2) de (aY _)))) ad))) (ae (aj de)) aG)
   (ae (aj (Ax T.iu (qw T) hr (ab (pv 0) (ab (pv 1) ad))))))),?_⟩
 refine lA _ rfl wl a rfl (a5.of hw) _ rfl (aX (fun h1=>?_) (fun h1=>?_))
 ·have e:Kd.xh a os=none:=by
   unfold Kd.xh
   cases e:weights a with
   | none=>rfl
   | some z=>rw [e] at h1;cases h1
  rw [e] at k
  exact k .non H rfl (aC.refl' H)
 ·have hws:(weights a).isSome=true:=by
   cases e:(weights a).isSome with
   | true=>rfl
   | false=>rw [e] at h1;exact absurd rfl h1
  refine rA (fun nn ew l1 l2 s1 s2=>?_) (jR hws)
  refine pO _ rfl sl rfl ⟨_,a5.of hs⟩ fun D hD=>jD (xs:=ss) (fun i H'=>i≤ss.length∧H' D=some (.lst (((os.take i).map Option.isNone).map V.bl))∧aC H H') ⟨bo _,af,aC.laid hD⟩ (fun i H' _ h=>a5.of (h.2.2 _ _ hs)) ?_ ?_
  ·rintro i v H1 hv
   refine gk fun hi hD1 sm1=>?_
   have hi':=(cg.mp hv).1
   obtain⟨o,ho⟩:∃o,os[i]?=some o:=⟨_,bH (by rw [←hsh.1];exact hi')⟩
   have e:=KT (hsh.2 i v o hv ho)
   refine⟨rfl,(eQ _ rfl rfl _ hD1 (b8 (by rw [aD,aD,ii];show _<2 ^ 24;omega) hi' ?_ fun b u q=>?_))⟩
   ·rw [af,Ch.bA ho,dB,dB,e]
    rfl
   ·rw [ak (aw q hD)]
    exact sm1 b u q
  ·rintro H1
   refine gk fun hi hD1 sm1=>?_
   rw [hsh.1,jU] at hD1
   refine⟨D,(eQ _ rfl (a5.of hD1) _ rfl (aX (fun h2=>?_) (fun h2=>?_)))⟩
   ·have e:Kd.xh a os=none:=by
     unfold Kd.xh
     refine a4 (fun b hb eb=>?_) (List.any_eq_true.mp h2)
     refine a4 ?_ (lV.mp hb)
     rintro o ho rfl
     have:o=none:=by cases o with
      | none=>rfl
      | some z=>cases eb
     subst this
     rw [Kd.GK ho]
     cases weights a<;>rfl
    rw [e] at k
    exact k .non H1 rfl sm1
   ·obtain⟨l,hl⟩:=z5 (os:=os) fun o ho=>by
     cases o with
     | some c=>exact⟨c,rfl⟩
     | none=>exact absurd (List.any_eq_true.mpr ⟨true,lV.mpr ⟨none,ho,rfl⟩,rfl⟩) h2
    have hl2:l.length=a.length:=by rw [←hlen,hl,aD]
    have ed:Kd.xh a os=some ((a.map Int.toNat).zip l):=by
     unfold Kd.xh
     rw [ew,hl,Kd.nF]
    refine Bf (fun ws l'=>?_) (LE ed hlen)
    refine rA fun ew' el' ed' em ea ewl=>?_
    rw [ed] at k
    rw [hl] at hsh
    refine NZ (fun as ess hasl hassh hok=>?_) (JN hsh)
    have hwm:(a.map Int.toNat)=ws:=by rw [ew] at ew';exact bG ew'
    rw [hwm] at k s1 s2
    have hfst:(ws.zip l).map (fun c=>c.1)=ws:=Kd.Bu (by rw [←hwm,aD];omega)
    have htot:total (ws.zip l)=Vbdeab.sum ws:=by unfold total;rw [hfst]
    have hwl:ws.length=a.length:=by rw [←hwm,aD]
    refine bD _ rfl _ rfl ?_
    intro x dx nx nd _
    have hs2:=Ex (C:=T.ai.C) nx nd
    refine iK x dx wl sl ws rfl af (hs2 _ _ (sm1 _ _ (by rw [hw,ea];rfl))) ⋯ ⋯ ⟨s2,(fun H3 bl el hp3 hb3 he3 nb ne kp3=>⟨rfl,?_⟩)⟩
    have s13:aC H1 H3:=aC.made nx nd kp3
    have s3:aC H H3:=sm1.trans s13
    refine k (.ref x) H3 (fB x rfl dx wl (oE sl bl (oE el as ?_))) s3
    have fr:∀p,(bT (bT H1 dx (.own x)) x (.ins T.ai.C dx [])) p=none→H p=none:=fun p hp=>by
     cases q:H p with
     | none=>rfl
     | some o=>rw [hs2 _ _ (sm1 _ _ q)] at hp;cases hp
    refine⟨by rw [htot];exact hp3,?_,s3 _ _ (by rw [hs,ess]),?_,?_,?_,fun i y c h1 h2=>?_,nw,nsl,eF hav (fr _ nb),eF hav (fr _ ne),?_⟩
    ·rw [hfst]
     exact s3 _ _ (by rw [hw,ea];rfl)
    ·rw [hfst];exact hb3
    ·rw [hfst];exact he3
    ·rw [hasl,List.length_zip];omega
    ·rw [List.getElem?_zip_eq_some] at h2
     exact(hassh i y c.2 h1 h2.2).same s3
    ·refine⟨by rw [List.length_zip];omega,by rw [List.length_zip];omega,by rw [htot];omega,by rw [htot];exact s2,fun c hc=>?_⟩
     exact hok c.2 (List.of_mem_zip hc).2
open Vbdeab (Class Dist)
structure Lr (d:Dist) (u i:Nat) (c:Nat×Class):Prop where
 at_:d[i]?=some c
 lt:u*total d<Vbdeab.M*Fr.dF d (i+1)
 ge:∀j,j<i→Vbdeab.M*Fr.dF d (j+1)≤u*total d
theorem xp {d:Dist} {i:Nat} (h:i<d.length):(xo (d.map fun c=>c.1))[i]?=some (ceilDiv (Vbdeab.M*Fr.dF d (i+1)) (total d)):=by
 unfold xo
 rw [du,HH (by rw [aD];exact h)]
 rfl
theorem Ly {d:Dist} {i:Nat} (h:i<d.length):(Lx (d.map fun c=>c.1))[i]?=some (Fr.dF d i):=by
 unfold Lx
 rw [du,HH (by rw [aD];exact h)]
 rfl
theorem xq (ws:List Nat):(xo ws).length=ws.length:=by unfold xo;rw [aD,ft]
theorem JY {d:Dist} {i:Nat} {c:Nat×Class} (h:d[i]?=some c):(d.map fun c=>c.1)[i]?=some c.1:=by rw [du,h];rfl
theorem ql {l:List Nat} {i n:Nat} {k:Int} (e:k=(i:Int)) (h:l[i]?=some n):Lk (dJ l) k=some (.int (n:Nat)):=vy e (EY h)
theorem kC (d:Dist) (i:Nat):Fr.dF d i≤total d:=by
 have:=Av (d.map fun c=>c.1) i
 exact this
theorem Nm (a b:List Nat):dJ a++dJ b=dJ (a++b):=by unfold dJ nats;rw [dB,dB]
def ly (T:Tx K mg):Sp:=fun vs H Q _=>∃(av:List Addr) (a:Addr) (d:Dist) (u:Nat),vs= [.ref a,.int u]∧fb T av H a d∧u<4294967296∧∀i c,Lr d u i c→Q (.int (i:Nat)) H
theorem li (T:Tx K mg):sP mg P w base T.eK 1 (ly T):=by
 refine T.eK.okA bw ?_
 rintro _ A _ s H _ Q E hr
 refine oF ?_
 rintro av a d u rfl U1 hu k
 refine lC (fun dx wl sl bl el as D=>?_) U1
 refine⟨_,(ac (aZ 2 bw.nd am)
   (ac (aZ 3 bw.nd (aB cb (a9 aW (by rfl) T.gx eA (ab (ao (pv 0) rfl) ad)) am))
   (ac (lq cM (aR ll (pv 2) (pv 3) (aY _)) (ac (aZ 4 bw.nd (aB cD (aB b7 (pv 2) (pv 3)) am))
   (ae (aT (aR ll (pv 1) (ip (ao (pv 0) rfl) (pv 4)) (aY _)) (ae (aZ 3 bw.nd (pv 4))) (ae (aZ 2 bw.nd (aB b7 (pv 4) am)))))))
   (ae (aj (pv 2)))))),?_⟩
 have hI:=D.inst
 have hlen:(dJ (xo (d.map fun c=>c.1))).length=d.length:=by rw [bf,xq,aD]
 have hW:0<total d:=D.ok.tot1
 refine aM _ rfl a _ dx _ _ rfl hI T.ai.cl (T.ai.no _ ()) rfl (bV el _ rfl (.inl (a5.of D.e)) (bV _ _ rfl rfl ?_))
 refine⟨fun m σ H'=>∃(lo hi:Nat) (v:Option V),m=hi - lo∧σ= [some (.ref a),some (.int u),some (.int lo),some (.int hi),v]∧lo≤hi∧hi<d.length∧(∀j,j<lo→Vbdeab.M*Fr.dF d (j+1)≤u*total d)∧u*total d<Vbdeab.M*Fr.dF d (hi+1)∧H'=H,(j4 (d.length - 1) 0 (d.length - 1) none rfl ?_ (bo _) (by have:=D.ok.len1;omega) (fi (fun j hj=>by omega) ?_ rfl)),?_⟩
 ·have e:((dJ (xo (d.map fun c=>c.1))).length:Int) - 1=((d.length - 1:Nat):Int):=by rw [hlen];have:=D.ok.len1;omega
  show [some (V.ref a),some (V.int u),some (V.int 0),some (V.int (((dJ (xo (d.map fun c=>c.1))).length:Int) - 1)),none]=_
  rw [e]
  rfl
 ·have e:d.length - 1+1=d.length:=by have:=D.ok.len1;omega
  rw [e,Fr.Nc]
  exact Nat.mul_lt_mul_of_pos_right hu hW
 ·rintro m σ H'
  refine tq ?_
  rintro lo hi v rfl
  refine rA ?_
  rintro rfl h1 h2 h3 h4 rfl
  refine bJ _ rfl (lA _ rfl _ _ rfl rfl _ rfl (aX (fun hl=>⟨_,fun _ _ z=>z,?_⟩) (fun hl=>?_)))
  ·have hl':lo<hi:=by have:=bn hl;omega
   have em:((lo:Int)+(hi:Int)) /2=(((lo+hi) /2:Nat):Int):=by omega
   refine eY _ rfl _ rfl _ _ rfl rfl (bR _ _ rfl rfl ⟨(),by decide+kernel⟩ ?_)
   refine i4 _ rfl _ rfl a _ dx _ _ rfl hI T.ai.cl (T.ai.no _ ()) rfl (fj _ rfl el _ _ _ rfl rfl (a5.of D.e) (ql em (xp (show(lo+hi) /2<d.length by omega))) _ _ rfl rfl (bJ _ rfl (aX (fun ht=>?_) (fun ht=>?_))))
   ·have ht':=bn ht
    have ht2:=(Fr.JA (u:=u) (a:=Vbdeab.M*Fr.dF d ((lo+hi) /2+1)) hW).mp ⋯
    exact bJ _ rfl (cP ((lo+hi) /2 - lo) ⋯ lo ((lo+hi) /2) _ rfl (by rw [←em];rfl) ⋯ (b8 ⋯ h3 ht2 rfl))
   ·have ht':¬((u:Int)<((ceilDiv (Vbdeab.M*Fr.dF d ((lo+hi) /2+1)) (total d):Nat):Int)):=fun q=>ht (aE q)
    have ht2:=(Fr.lX (u:=u) hW).mp (show ceilDiv (Vbdeab.M*Fr.dF d ((lo+hi) /2+1)) (total d)≤u by omega)
    refine cy _ rfl _ _ rfl rfl (cP (hi - ((lo+hi) /2+1)) ⋯ ((lo+hi) /2+1) hi _ rfl (by rw [em];rfl) ⋯ (b8 h2 (fun j hj=>?_) h4 rfl))
    ·exact fS (Nat.mul_le_mul_left _ (Fr.HY ⋯)) ht2
  ·have hl':¬((lo:Int)<(hi:Int)):=fun q=>hl (aE q)
   have e:lo=hi:=by omega
   subst e
   exact⟨_,rfl,k lo _ ⟨bH h2,h4,h3⟩⟩
theorem Ot {c:Class} (ok:vw c) {t sp:Int} (ht:Sz 170 t) (hsp:Sz 170 sp) (h0:0<sp):Sz 500 (Fr.Lj c t sp)∧Sz 500 (Fr.Os c sp):=by
 refine nl (fun b0 bz oz rz=>?_) (iT ok)
 cases c with
 | line x y=>exact⟨(oz.mul hsp (k:=350)).add (rz.mul ht (k:=351)) (k:=500),bz.mul hsp (k:=500)⟩
 | comb x s n=>
  have nz:=jP (gf ok).2.2.2
  exact⟨oz.add (rz.mul ((ht.mul nz (k:=230)).ediv h0) (k:=411)) (k:=500),bz.mono ()⟩
theorem Px {T:Tx K mg} {av:List Addr} {H:Hp} {a:Addr} {d:Dist} {dx wl sl bl el:Addr} {as:List Addr} (D:DV T av H a d dx wl sl bl el as) {i:Nat} {c:Nat×Class} (h:d[i]?=some c):∃x,as[i]?=some x∧jr T H x c.2:=by
 have hi:=(cg.mp h).1
 have e:=bH (show i<as.length by rw [D.len];exact hi)
 exact⟨_,e,D.sh i _ c e h⟩
theorem nG {as:List Addr} {i:Nat} {x:Addr} {k:Int} (e:k=(i:Int)) (h:as[i]?=some x):Lk (as.map V.ref) k=some (.ref x):=vy e (by rw [du,h];rfl)
def mq (T:Tx K mg) (H:Hp) (z:Addr) (q:Vbdeab.Q):Prop:=∃n m,fI T H z n m∧Fr.Iz q n m∧Sz 500 n∧Sz 500 m
theorem mq.si {T:Tx K mg} {H H':Hp} {z:Addr} {q:Vbdeab.Q} (h:mq T H z q) (s:ib H H'):mq T H' z q:=let ⟨n,m,a,b,c,d⟩:=h;(bR n m (a.si s) b c d)
def mS (T:Tx K mg):Sp:=fun vs H Q _=>∃(av:List Addr) (a:Addr) (d:Dist) (i u:Nat) (c:Nat×Class),vs= [.ref a,.int i,.int u]∧fb T av H a d∧u<4294967296∧d[i]?=some c∧0<c.1∧Vbdeab.M*Fr.dF d i≤u*total d∧∀(z:Addr) (H':Hp),mq T H' z (along c.1 c.2 (u*total d - Vbdeab.M*Fr.dF d i))→aC H H'→Q (.ref z) H'
theorem gC (T:Tx K mg):sP mg P w base T.dZ 4 (mS T):=by
 refine T.dZ.okA gI ?_
 rintro _ A _ s H _ Q E hr
 refine Bg ?_
 rintro av a d i u c rfl U1 hu hc hw0 hge k
 refine lC (fun dx wl sl bl el as D=>?_) U1
 refine⟨_,(ac (aZ 3 gI.nd (aB cb (aB aJ (pv 2) (ao (pv 0) rfl)) (aB aJ (fk T.dN) (ip (ao (pv 0) rfl) (pv 1)))))
   (ae (aj (wp (zN (ip (ao (pv 0) rfl) (pv 1)) T.zQ (E6 T) hr (ab (pv 3) (ab (aB aJ (fk T.dN) (ip (ao (pv 0) rfl) (pv 1))) ad))) (zN (ip (ao (pv 0) rfl) (pv 1)) T.zP (E5 T) hr (ab (pv 3) (ab (aB aJ (fk T.dN) (ip (ao (pv 0) rfl) (pv 1))) ad))))))),?_⟩
 have hI:=D.inst
 have hi:=(cg.mp hc).1
 refine a4 (fun x hx hsh=>?_) (Px D hc)
 have okc:=D.ok.cls c (eR hc)
 have tz:Sz 133 ((total d:Nat):Int):=eI (rV D.ok.tot2)
 have uz:Sz 33 (u:Int):=eI (Nat.lt_trans hu ())
 have bz:Sz 133 ((Fr.dF d i:Nat):Int):=eI (rV (fS (kC d i) D.ok.tot2))
 have wle:c.1≤total d:=by have h1:=Fr.jz hc;have h2:=kC d (i+1);omega
 have wz:Sz 133 ((c.1:Nat):Int):=eI (rV (fS wle D.ok.tot2))
 have Mz:Sz 34 (4294967296:Int):=by decide
 have M0:(4294967296:Int)=((Vbdeab.M:Nat):Int):=rfl
 have et:(u:Int)*((total d:Nat):Int) - 4294967296*((Fr.dF d i:Nat):Int)=((u*total d - Vbdeab.M*Fr.dF d i:Nat):Int):=by
  rw [sI hge,b9,b9,←M0]
 have tz2:Sz 170 ((u*total d - Vbdeab.M*Fr.dF d i:Nat):Int):=by
  rw [←et]
  exact(uz.mul tz (k:=166)).sub (Mz.mul bz (k:=167)) (k:=170)
 have tz3:Sz 400 ((u:Int)*((total d:Nat):Int) - 4294967296*((Fr.dF d i:Nat):Int)):=by rw [et];exact tz2.mono ()
 have spz:Sz 170 (4294967296*((c.1:Nat):Int)):=Mz.mul wz (k:=170)
 have sp0:0<4294967296*((c.1:Nat):Int):=by omega
 refine i4 _ rfl _ rfl a _ dx _ _ rfl hI T.ai.cl (T.ai.no _ ()) rfl (bR _ _ rfl rfl (bE uz tz) (aM _ rfl a _ dx _ _ rfl hI T.ai.cl (T.ai.no _ ()) rfl (bQ _ rfl bl _ _ _ rfl rfl (a5.of D.b) (ql rfl (Ly hi)) (jt _ _ rfl rfl (bE Mz bz) _ _ rfl rfl ?_))))
 have fin:∀(z:Addr) (H':Hp),fI T H' z (Fr.Lj c.2 ((u:Int)*((total d:Nat):Int) - 4294967296*((Fr.dF d i:Nat):Int)) (4294967296*((c.1:Nat):Int))) (Fr.Os c.2 (4294967296*((c.1:Nat):Int)))→aC H H'→Q (.ref z) H':=fun z H' h s=>by
  rw [et] at h
  obtain⟨z1,z2⟩:=Ot okc tz2 spz sp0
  refine k z H' (bR _ _ h ?_ z1 z2) s
  exact Fr.tE okc.2 hw0 _
 obtain⟨cw,cc⟩:=c
 cases cc with
 | line p q=>
  refine d7 (fun dz ax ay h1 h2 h3=>?_) hsh
  exact .inl (aM _ rfl a _ dx _ _ rfl hI T.ai.cl (T.ai.no _ ()) rfl (bQ _ rfl sl _ _ _ rfl rfl (a5.of D.s) (nG rfl hx) (bY x dz _ rfl h1 rfl (i4 _ rfl _ rfl a _ dx _ _ rfl hI T.ai.cl (T.ai.no _ ()) rfl (bQ _ rfl wl _ _ _ rfl rfl (a5.of D.w) (ql rfl (JY hc)) (bR _ _ rfl rfl (bE Mz wz) (iK x p q _ _ rfl hsh okc tz3 (spz.mono ()) fin)))))))
 | comb p q n=>
  refine d7 (fun dz ax ay h1 h2 h3=>?_) hsh
  exact .inr (aM _ rfl a _ dx _ _ rfl hI T.ai.cl (T.ai.no _ ()) rfl (bQ _ rfl sl _ _ _ rfl rfl (a5.of D.s) (nG rfl hx) (bY x dz _ rfl h1 rfl (i4 _ rfl _ rfl a _ dx _ _ rfl hI T.ai.cl (T.ai.no _ ()) rfl (bQ _ rfl wl _ _ _ rfl rfl (a5.of D.w) (ql rfl (JY hc)) (bR _ _ rfl rfl (bE Mz wz) (ju x p q n _ _ rfl hsh okc tz3 (spz.mono ()) sp0 fin)))))))
theorem Lr.pos {d:Dist} {u i:Nat} {c:Nat×Class} (t:Lr d u i c):Vbdeab.M*Fr.dF d i≤u*total d∧0<c.1:=by
 have h1:Vbdeab.M*Fr.dF d i≤u*total d:=by
  cases i with
  | zero=>rw [Fr.tF,Nat.mul_zero];exact bo _
  | succ i=>exact t.ge i (Nat.lt_succ_self _)
 refine⟨h1,?_⟩
 have h2:=t.lt
 rw [Fr.jz t.at_,wS] at h2
 rcases EG c.1 with q | q
 ·rw [q,Nat.mul_zero,lW] at h2
  omega
 ·exact q
def mR (T:Tx K mg):Sp:=fun vs H Q _=>∃(av:List Addr) (a:Addr) (d:Dist) (u:Nat),vs= [.ref a,.int u]∧fb T av H a d∧u<4294967296∧∀(z:Addr) (H':Hp),mq T H' z (Vbdeab.value d u)→aC H H'→Q (.ref z) H'
theorem gB (T:Tx K mg):sP mg P w base T.dY 5 (mR T):=by
 refine T.dY.okA mM ?_
 rintro _ A _ s H _ Q E hr
 refine oF ?_
 rintro av a d u rfl hD hu k
 refine⟨_,(ae (aj (zN (pv 0) T.dZ (gC T) hr (ab (zN (pv 0) T.eK (li T) hr (ab (pv 1) ad)) (ab (pv 1) ad))))),?_⟩
 refine lC (fun dx wl sl bl el as D=>?_) hD
 have hI:=D.inst
 refine cP _ rfl a dx _ rfl hI rfl (cP _ rfl a dx _ rfl hI rfl (fB _ rfl av a (bR d u rfl hD hu fun i c t=>?_)))
 obtain⟨p1,p2⟩:=t.pos
 refine bJ _ rfl (ju av a d i u c rfl hD hu t.at_ p2 p1 ?_)
 rw [←Fr.MO (w:=c.1) (c:=c.2) t.at_ t.lt t.ge]
 exact k
theorem Ri (d:Dist):checked (some d)=Kd.xh (nats (d.map fun c=>c.1)) (d.map fun c=>Kd.sm (some c.2)):=by
 have e1:(d.map fun c=>Kd.sm (some c.2))=((d.map fun c=>c.2).map some).map Kd.sm:=by rw [fu,fu];rfl
 have e2:(d.map fun c=>c.1).zip (d.map fun c=>c.2)=d:=by
  induction d with
  | nil=>rfl
  | cons a r ih=>rw [e9,e9,List.zip_cons_cons,ih (by rw [fu,fu];rfl)]
 unfold Kd.xh
 rw [e1,Kd.yX,Kd.nF,Kd.jQ]
 by_cases hw:weightsOk (d.map fun c=>c.1)=true
 ·have z:=Kd.nq (a:=nats (d.map fun c=>c.1)) (ws:=d.map fun c=>c.1) (l:=d.map fun c=>c.2) (by rw [Kd.jQ,if_pos hw]) (by simp)
  rw [e2] at z
  rw [z,if_pos hw]
  show(Kd.FT _).map _=match some (d.map fun c=>c.1),Kd.FT (d.map fun c=>c.2) with | some ws,some l=>some (ws.zip l) | _,_=>none
  cases Kd.FT (d.map fun c=>c.2)<;>rfl
 ·rw [if_neg hw]
  unfold checked Vbdeab.ok
  simp only
  rw [if_neg (by simp [hw])]
theorem Oe {c:Class} (h:vw c):Kd.sm (some c)=some c:=by
 show(if c.small=true then some c else none)=_
 rw [if_pos h.1]
theorem Jp {T:Tx K mg} {av:List Addr} {H:Hp} {a:Addr} {d:Dist} {dx wl sl bl el:Addr} {as:List Addr} (D:DV T av H a d dx wl sl bl el as):jq T H (as.map V.ref) (d.map fun c=>some c.2):=by
 refine⟨by rw [aD,aD,D.len],fun i v o h1 h2=>?_⟩
 rw [du] at h1 h2
 cases e1:as[i]? with
 | none=>rw [e1] at h1;cases h1
 | some x=>
  cases e2:d[i]? with
  | none=>rw [e2] at h2;cases h2
  | some c=>
   rw [e1] at h1
   rw [e2] at h2
   cases h1
   cases h2
   exact df x rfl (D.sh i x c e1 e2) (D.ok.cls c (eR e2))
theorem jq.app {T:Tx K mg} {H:Hp} {vs us:List V} {os ps:List (Option Class)} (h:jq T H vs os) (k:jq T H us ps):jq T H (vs++us) (os++ps):=by
 refine⟨by rw [bZ,bZ,h.1,k.1],fun i v o a b=>?_⟩
 rcases sO i vs.length with q | q
 ·rw [n8 q] at a
  rw [n8 (by rw [←h.1];exact q)] at b
  exact h.2 i v o a b
 ·rw [n9 q] at a
  rw [n9 (by rw [←h.1];exact q),←h.1] at b
  exact k.2 _ v o a b
theorem J9 {d e:Dist} (hd:Oi d) (he:Oi e) (v w:Nat):checked (some (Vbdeab.blend d e v w))=Kd.xh (nats ((d.map fun c=>c.1*v*total e)++(e.map fun c=>c.1*w*total d))) ((d.map fun c=>some c.2)++(e.map fun c=>some c.2)):=by
 rw [Ri]
 unfold Vbdeab.blend
 rw [dB,dB,fu,fu,fu,fu]
 congr 1
 ·congr 2
  ·exact oa fun c _=>(wT _ _ _).symm
  ·exact oa fun c _=>(wT _ _ _).symm
 ·congr 1
  ·exact oa fun c hc=>Oe (hd.cls c hc)
  ·exact oa fun c hc=>Oe (he.cls c hc)
def Fx (T:Tx K mg):Sp:=fun vs H Q _=>∃(av:List Addr) (a b:Addr) (d e:Dist) (v w:Nat),vs= [.ref a,.int v,.ref b,.int w]∧fb T av H a d∧fb T av H b e∧v≤1000000000∧w≤1000000000∧(∀b∈av,H b≠none)∧∀(r:V) (H':Hp),je T av H' r (checked (some (Vbdeab.blend d e v w)))→aC H H'→Q r H'
theorem E8 (T:Tx K mg):dO P w base T.zR 6 (Fx T):=by
 refine T.zR.okA hJ ?_
 rintro _ A _ s H _ Q E hr
 refine Jb ?_
 rintro av a b d e v w' rfl U1 U2 hv hw hav k
 refine lC (fun dx wl sl bl el as D=>?_) U1
 refine lC (fun dy wl2 sl2 bl2 el2 as2 E=>?_) U2
 refine⟨_,(ac (tX (i:=5) (own:= [("weight",4)]) rfl hJ.nd rfl rfl (yp rfl rfl rfl rfl) (cF (ao (pv 0) rfl)) (ci (N:= ["one","v","other","w","weight","weights"]) (sc:=ag nJ) (by decide+kernel)) (fun _ _ _ _ _=>(kZ 4 hJ.nd)) (fun _ _ _ _ _=>dS) (fun _ _ _ _ _=>(aB aJ (aB aJ (pv 4) (pv 1)) (xK (K':=K) (pv 2) (by rfl) rfl))))
   (ac (aZ 5 hJ.nd (aB fe (pv 5) (j9 (own:= [("weight",4)]) rfl hJ.nd (cF (ao (pv 2) rfl)) (ci (N:= ["one","v","other","w","weight","weights"]) (sc:=ag nJ) (by decide+kernel)) (fun _ _ _ _ _=>(kZ 4 hJ.nd)) (fun _ _ _ _ _=>dS) (fun _ _ _ _ _=>(aB aJ (aB aJ (pv 4) (pv 3)) (xK (K':=K) (pv 0) (by rfl) rfl))))))
   (ae (aj (bj T.cI (cT T) hr (ab (pv 5) (ab (aB fe (ao (pv 0) rfl) (ao (pv 2) rfl)) ad))))))),?_⟩
 rw [J9 D.ok E.ok] at k
 have vz:Sz 31 (v:Int):=eI (oe hv ())
 have wz:Sz 31 (w':Int):=eI (oe hw ())
 have tz:Sz 133 ((total d:Nat):Int):=eI (rV D.ok.tot2)
 have tz2:Sz 133 ((total e:Nat):Int):=eI (rV E.ok.tot2)
 have dl:=D.ok.len2
 have el':=E.ok.len2
 refine aM _ rfl a _ dx _ _ rfl D.inst T.ai.cl (T.ai.no _ ()) rfl (df wl rfl ⟨_,a5.of D.w⟩ fun L1 hL1=>jD (xs:=dJ (d.map fun c=>c.1)) (fun i H'=>i≤d.length∧H' L1=some (.lst (dJ (((d.map fun c=>c.1).take i).map fun n=>n*v*total e)))∧aC H H') ⟨bo _,af,aC.laid hL1⟩ (fun i H' _ h=>a5.of (h.2.2 _ _ D.w)) ?_ ?_)
 ·rintro i x H1 hx
  refine gk fun hi hL sm=>?_
  refine a4 ?_ (qk hx)
  rintro n hn rfl
  have hi':=(cg.mp hn).1
  rw [aD] at hi'
  have nz:Sz 133 (n:Int):=by
   rw [du] at hn
   refine a4 ?_ (mW.mp hn)
   rintro c hc rfl
   have h1:=Fr.jz hc
   have h2:=kC d (i+1)
   exact eI (rV (by have:=D.ok.tot2;omega))
  refine dt rfl _ rfl (eu _ rfl _ _ rfl rfl (bE nz vz) (aM _ rfl b _ dy _ _ rfl (sm _ _ E.inst) T.ai.cl (T.ai.no _ ()) rfl (bV _ _ rfl rfl (dt (bE (nz.mul vz (k:=170)) tz2) _ hL (b8 (by rw [bf,aD,ii];show _<2 ^ 24;omega) hi' ?_ fun q o z=>?_)))))
  ·rw [af,Ch.bA hn,dB]
   show some (HO.lst (dJ _++ [V.int ((n:Int)*(v:Int)*((total e:Nat):Int))]))=some (HO.lst (dJ (_++ [n*v*total e])))
   rw [←gz,b9,b9]
  ·rw [ak (aw z hL1)]
   exact sm q o z
 rintro H1
 refine gk fun hi hL sm=>?_
 rw [bf,aD] at hL
 rw [show(d.map fun c=>c.1).take d.length=d.map fun c=>c.1 by rw [lD (by rw [aD];exact bq _)]] at hL
 refine i4 _ rfl _ rfl b _ dy _ _ rfl (sm _ _ E.inst) T.ai.cl (T.ai.no _ ()) rfl (df wl2 rfl ⟨_,a5.of (sm _ _ E.w)⟩ fun L2 hL2=>jD (xs:=dJ (e.map fun c=>c.1)) (fun i H'=>i≤e.length∧H' L2=some (.lst (dJ (((e.map fun c=>c.1).take i).map fun n=>n*w'*total d)))∧aC H1 H') ⟨bo _,af,aC.laid hL2⟩ (fun i H' _ h=>a5.of (h.2.2 _ _ (sm _ _ E.w))) ?_ ?_)
 ·rintro i x H2 hx
  refine gk fun hi2 hLL sm2=>?_
  refine a4 ?_ (qk hx)
  rintro n hn rfl
  have hi':=(cg.mp hn).1
  rw [aD] at hi'
  have nz:Sz 133 (n:Int):=by
   rw [du] at hn
   refine a4 ?_ (mW.mp hn)
   rintro c hc rfl
   have h1:=Fr.jz hc
   have h2:=kC e (i+1)
   exact eI (rV (by have:=E.ok.tot2;omega))
  refine dt rfl _ rfl (eu _ rfl _ _ rfl rfl (bE nz wz) (aM _ rfl a _ dx _ _ rfl (sm2 _ _ (sm _ _ D.inst)) T.ai.cl (T.ai.no _ ()) rfl (bV _ _ rfl rfl (dt (bE (nz.mul wz (k:=170)) tz) _ hLL (b8 (by rw [bf,aD,ii];show _<2 ^ 24;omega) hi' ?_ fun q o z=>?_)))))
  ·rw [af,Ch.bA hn,dB]
   show some (HO.lst (dJ _++ [V.int ((n:Int)*(w':Int)*((total d:Nat):Int))]))=some (HO.lst (dJ (_++ [n*w'*total d])))
   rw [←gz,b9,b9]
  ·rw [ak (aw z hL2)]
   exact sm2 q o z
 rintro H2
 refine gk fun hi2 hLL sm2=>?_
 rw [bf,aD] at hLL
 rw [show(e.map fun c=>c.1).take e.length=e.map fun c=>c.1 by rw [lD (by rw [aD];exact bq _)]] at hLL
 refine j5 L1 L2 _ _ rfl rfl (sm2 _ _ hL) hLL (by rw [bf,bf,aD,aD,aD,aD];show _≤2 ^ 24;omega) fun L3 hL3=>?_
 have s3:=aC.laid (o:= .lst (dJ ((d.map fun c=>c.1).map fun n=>n*v*total e)++dJ ((e.map fun c=>c.1).map fun n=>n*w'*total d))) hL3
 have S3:=(sm.trans sm2).trans s3
 refine i4 _ rfl _ rfl a _ dx _ _ rfl (S3 _ _ D.inst) T.ai.cl (T.ai.no _ ()) rfl (aM _ rfl b _ dy _ _ rfl (S3 _ _ E.inst) T.ai.cl (T.ai.no _ ()) rfl (j5 sl sl2 _ _ rfl rfl (S3 _ _ D.s) (S3 _ _ E.s) (by rw [aD,aD,D.len,E.len];show _≤2 ^ 24;omega) fun L4 hL4=>?_))
 have s4:=aC.laid (o:= .lst (as.map V.ref++as2.map V.ref)) hL4
 have S4:=S3.trans s4
 have fr3:H L3=none:=(sm.trans sm2).free hL3
 have fr4:H L4=none:=S3.free hL4
 refine ju av L3 L4 _ _ _ rfl ?_ af (((Jp D).app (Jp E)).si (aC.i S4)) ?_ ?_ (b8 (eF hav fr3) (eF hav fr4) (fun q hq z=>?_) fun r H5 o5 s5=>k r H5 o5 (S4.trans s5))
 ·rw [s4 _ _ (af (a:=L3))]
  rw [Nm,fu,fu]
  rfl
 ·unfold nats
  rw [bZ,aD,aD,aD,bZ,aD,aD]
 ·unfold nats
  rw [aD,bZ,aD,aD]
  omega
 ·cases z2:H q with
  | none=>exact hav q hq z2
  | some o=>rw [S4 _ _ z2] at z;cases z
theorem Lz (d:Dist) (f s:Vbdeab.Q):checked (some (Vbdeab.bend d f s))=Kd.xh (nats (d.map fun c=>c.1)) (d.map fun c=>tG f s c.2):=by
 rw [Ri]
 unfold Vbdeab.bend
 rw [fu,fu]
 rfl
theorem EJ {d:Dist} {f s:Vbdeab.Q} {i:Nat} {c:Nat×Class} (h:d[i]?=some c):(d.map fun c=>tG f s c.2).take (i+1)=(d.map fun c=>tG f s c.2).take i++ [tG f s c.2]:=Ch.bA (by rw [du,h];rfl)
def KZ (T:Tx K mg):Sp:=fun vs H Q _=>∃(av:List Addr) (a b c:Addr) (d:Dist) (f s:Vbdeab.Q),vs= [.ref a,.ref b,.ref c]∧fb T av H a d∧j2 T H b f∧j2 T H c s∧jf f∧jf s∧(∀b∈av,H b≠none)∧∀(r:V) (H':Hp),je T av H' r (checked (some (Vbdeab.bend d f s)))→aC H H'→Q r H'
theorem KE (T:Tx K mg):dO P w base T.Je 7 (KZ T):=by
 refine T.Je.okA zh ?_
 rintro _ A _ s H _ Q E hr
 refine Jb ?_
 rintro av a b c d f s rfl U1 hf hs okf oks
 rintro⟨hav,k⟩
 refine lC (fun dx wl sl bl el as D=>?_) U1
 refine⟨_,(ac (tX (i:=4) (own:= [("shape",3)]) rfl zh.nd rfl rfl (yp rfl rfl rfl rfl) (cF (ao (pv 0) rfl)) (ci (N:= ["distribution","factor","summand","shape","shapes"]) (sc:=ag B9) (by decide+kernel)) (fun _ _ _ _ _=>(kZ 3 zh.nd)) (fun _ _ _ _ _=>dS) (fun _ _ _ _ _=>(wp (zN (pv 3) T.uP (BW T) hr (ab (pv 1) (ab (pv 2) ad))) (zN (pv 3) T.uN (BU T) hr (ab (pv 1) (ab (pv 2) ad))))))
   (ae (aj (bj T.cI (cT T) hr (ab (ao (pv 0) rfl) (ab (pv 4) ad)))))),?_⟩
 rw [Lz] at k
 have dl:=D.ok.len2
 refine aM _ rfl a _ dx _ _ rfl D.inst T.ai.cl (T.ai.no _ ()) rfl (df sl rfl ⟨_,a5.of D.s⟩ fun L hL=>jD (xs:=as.map V.ref) (fun i H'=>i≤d.length∧∃acc,H' L=some (.lst acc)∧jq T H' acc ((d.map fun c=>tG f s c.2).take i)∧aC H H') (mU (bo _) ([]) af ⟨rfl,fun i v o h _=>by cases i<;>cases h⟩ (aC.laid hL)) (fun i H' _ ⟨_,_,_,_,sm⟩=>a5.of (sm _ _ D.s)) ?_ ?_)
 ·rintro i v H1 hv
  refine pQ fun hi acc hA hO sm=>?_
  rw [du] at hv
  refine a4 ?_ (mW.mp hv)
  rintro x hx rfl
  have hi':i<d.length:=by rw [←D.len];exact(cg.mp hx).1
  have hc:=bH hi'
  generalize d[i]=cc at hc
  have hsh:=(D.sh i x cc hx hc).same sm
  have okc:=D.ok.cls cc (eR hc)
  have fin:∀(r:V) (H4:Hp),EI T H4 r (tG f s cc.2)→aC H1 H4→∃acc,H4 L=some (.lst acc)∧acc.length<sizeLine∧(i+1≤d.length∧∃acc',(bT H4 L (.lst (acc++ [r]))) L=some (.lst acc')∧jq T (bT H4 L (.lst (acc++ [r]))) acc' ((d.map fun c=>tG f s c.2).take (i+1))∧aC H (bT H4 L (.lst (acc++ [r])))):=fun r H4 ho s4=>by
   have hA4:=s4 _ _ hA
   refine df acc hA4 ?_ (mU hi' _ af ?_ fun q o z=>?_)
   ·rw [hO.1,ii,aD]
    show _<2 ^ 24
    omega
   ·rw [EJ hc]
    exact((hO.si (aC.i s4)).snoc ho).si (ib.lst hA4)
   ·rw [ak (aw z hL)]
    exact s4 _ _ (sm _ _ z)
  obtain⟨cw,cc⟩:=cc
  cases cc with
  | line p q=>
   refine d7 (fun dz ax ay h1 h2 h3=>?_) hsh
   exact⟨rfl,.inl (cP _ rfl x dz _ rfl h1 rfl (bJ _ rfl (fB _ rfl x b (iK c p q f s rfl hsh okc (hf.same sm) (hs.same sm) (fi okf oks fin)))))⟩
  | comb p q n=>
   refine d7 (fun dz ax ay h1 h2 h3=>?_) hsh
   exact⟨rfl,.inr (cP _ rfl x dz _ rfl h1 rfl (bJ _ rfl (fB _ rfl x b (ju c p q f s n rfl hsh okc (hf.same sm) (hs.same sm) okf ⟨oks,fin⟩))))⟩
 ·rintro H1
  refine pQ fun hi acc hA hO sm=>?_
  rw [aD,D.len,lD (by rw [aD];exact bq _)] at hO
  refine aM _ rfl a _ dx _ _ rfl (sm _ _ D.inst) T.ai.cl (T.ai.no _ ()) rfl (bJ _ rfl (ju av wl L _ _ _ rfl (sm _ _ D.w) hA hO ?_ ?_ (b8 D.nw (eF hav hL) (fun q hq z=>?_) fun r H5 o5 s5=>k r H5 o5 (sm.trans s5))))
  ·unfold nats
   rw [aD,aD,aD]
  ·unfold nats
   rw [aD,aD]
   omega
  ·cases z2:H q with
   | none=>exact hav q hq z2
   | some o=>rw [sm _ _ z2] at z;cases z
open Vbdeab (Class Dist)
theorem zm {T:Tx K mg} {H:Hp} {x:Addr} {c:Class} (h:jr T H x c):∃C dx fs,H x=some (.ins C dx fs)∧HR K C∧ku K C "bottom"∧ku K C "x"∧fs.lookup ("bottom":Str)=some (V.int (Fr.cB c))∧∃ax,fs.lookup ("x":Str)=some (V.ref ax)∧j2 T H ax (Fr.rW c):=by
 cases c with
 | line p q=>refine d7 (fun dx ax ay h1 h2 h3=>?_) h;exact i5 _ dx _ h1 T.aP.cl (T.aP.no _ ()) (T.aP.no _ ()) (dt rfl ax rfl h2)
 | comb p q n=>refine d7 (fun dx ax ay h1 h2 h3=>?_) h;exact i5 _ dx _ h1 T.aH.cl (T.aH.no _ ()) (T.aH.no _ ()) (dt rfl ax rfl h2)
def d9 (R:Hp→Addr→Class→Prop) (H:Hp) (ts:List Addr) (l:Dist):Prop:=ts.length=l.length∧∀(j:Nat) t c,ts[j]?=some t→l[j]?=some c→∃x,H t=some (.tup [.int (c.1:Nat),.ref x])∧R H x c.2
def Si (R:Hp→Addr→Class→Prop):Prop:=∀H H' x c,ib H H'→R H x c→R H' x c
theorem G8 (T:Tx K mg):Si (fun H x c=>jr T H x c):=fun H H' x c s h=>h.si s
theorem d9.same {R:Hp→Addr→Class→Prop} (hR:Si R) {H H':Hp} {ts:List Addr} {l:Dist} (h:d9 R H ts l) (s:aC H H'):d9 R H' ts l:=⟨h.1,fun j t c a b=>let ⟨x,e,r⟩:=h.2 j t c a b;⟨x,s _ _ e,hR _ _ _ _ (aC.i s) r⟩⟩
theorem d9.lst {R:Hp→Addr→Class→Prop} (hR:Si R) {H:Hp} {D:Addr} {xs:List V} {o:HO} {ts:List Addr} {l:Dist} (h:d9 R H ts l) (hD:H D=some (.lst xs)):d9 R (bT H D o) ts l:=⟨h.1,fun j t c a b=>let ⟨x,e,r⟩:=h.2 j t c a b;⟨x,by rw [ak (bg e hD (by intro z;cases z))];exact e,hR _ _ _ _ (ib.lst hD) r⟩⟩
theorem d9.nil (R:Hp→Addr→Class→Prop) (H:Hp):d9 R H [] []:=⟨rfl,fun j t c a _=>by cases j<;>cases a⟩
theorem d9.snoc {R:Hp→Addr→Class→Prop} {H:Hp} {ts:List Addr} {l:Dist} {t:Addr} {c:Nat×Class} {x:Addr} (h:d9 R H ts l) (e:H t=some (.tup [.int (c.1:Nat),.ref x])) (r:R H x c.2):d9 R H (ts++ [t]) (l++ [c]):=by
 refine⟨by rw [bZ,bZ,h.1];rfl,fun j t' c' a b=>?_⟩
 rcases C0 j ts.length with q | q | q
 ·rw [n8 q] at a
  rw [n8 (by rw [←h.1];exact q)] at b
  exact h.2 j t' c' a b
 ·rw [q,n9 (bq _),uF] at a
  rw [q,h.1,n9 (bq _),uF] at b
  cases a
  cases b
  exact⟨x,e,r⟩
 ·rw [uK (by rw [bZ];exact q)] at a
  cases a
theorem gH {ts:List Addr} {i:Nat} {v:V} (h:(ts.map V.ref)[i]?=some v):∃t,ts[i]?=some t∧v= .ref t:=by
 rw [du] at h
 refine a4 (fun t a b=>?_) (mW.mp h)
 exact⟨t,a,b.symm⟩
theorem CU {d:Dist} {i:Nat} {c:Nat×Class} (h:d[i]?=some c):taken (d.take (i+1))=taken (d.take i)++if 0<c.1 then [c] else []:=by
 unfold taken
 rw [Ch.bA h,HE]
 congr 1
 by_cases q:0<c.1
 ·rw [if_pos q,uJ,if_pos (aE q)]
  rfl
 ·rw [if_neg q,uJ,if_neg (by simp;omega)]
  rfl
theorem kN {d:Dist} {c:Nat×Class} (h:c∈taken d):c∈d∧0<c.1:=by
 unfold taken at h
 obtain⟨a,b⟩:=Dc.mp h
 exact⟨a,bn b⟩
theorem u9 (d:Dist):(taken d).length≤d.length:=HI _ _
theorem yb (ts:List Addr) (t:Addr):ts.map V.ref++ [V.ref t]=(ts++ [t]).map V.ref:=by rw [dB];rfl
def CQ (T:Tx K mg):Sp:=fun vs H Q _=>∃(av:List Addr) (a:Addr) (d:Dist),vs= [.ref a]∧fb T av H a d∧∀(H':Hp) (p:Addr),H' p=some (.lst (dJ (Vbdeab.shares d)))→aC H H'→H p=none→Q (.ref p) H'
theorem B1 (T:Tx K mg):dO P w base T.uS 1 (CQ T):=by
 refine T.uS.okA gN ?_
 rintro _ A _ s H _ Q E hr
 refine d7 ?_
 rintro av a d rfl U1 k
 refine lC (fun dx wl sl bl el as D=>?_) U1
 refine⟨_,(ac (aZ 1 gN.nd (aI ad))
   (ac (aZ 2 gN.nd am)
   (ac (eh cM rfl (cF (ao (pv 0) rfl)) (kZ 3 gN.nd) (ac (gw (rZ lM uG uH jg (pv 1) (ab (aB cb (pv 3) (pv 2)) ad)))
   (ae (aZ 2 gN.nd (pv 3)))))
   (ae (aj (pv 1)))))),?_⟩
 have hW:0<total d:=D.ok.tot1
 have hlen:(dJ (xo (d.map fun c=>c.1))).length=d.length:=by rw [bf,xq,aD]
 have dl:=D.ok.len2
 refine⟨bo _,fun L hL=>?_⟩
 have sL:=aC.laid (o:= .lst []) hL
 refine aM _ rfl a _ dx _ _ rfl (sL _ _ D.inst) T.ai.cl (T.ai.no _ ()) rfl (df el rfl ⟨_,a5.of (sL _ _ D.e)⟩ (eE (xs:=dJ (xo (d.map fun c=>c.1))) (fun i σ H'=>i≤d.length∧∃(v:Option V) (acc:List Nat),σ= [some (.ref a),some (.ref L),some (.int ((ceilDiv (Vbdeab.M*Fr.dF d i) (total d):Nat):Int)),v]∧acc.length=i∧Vbdeab.shares d=acc++Fr.qV d i∧H' L=some (.lst (dJ acc))∧aC H H') ⟨bo _,(cK none ([]) ?_ (b8 rfl (Fr.Fq d) af sL))⟩ (fun i σ H' _ ⟨_,_,_,_,_,_,_,s⟩=>a5.of (s _ _ D.e)) ?_ ?_))
 ·rw [Fr.tF,Nat.mul_zero,Fr.D5 _ hW]
  rfl
 ·rintro i v σ H1 hv U
  obtain⟨hi,w1,acc,rfl,hacc,hsh,hL1,sm⟩:=U
  refine a4 ?_ (qk hv)
  rintro n hn rfl
  have hi':i<d.length:=by have:=(cg.mp hn).1;rw [xq,aD] at this;exact this
  rw [xp hi'] at hn
  cases hn
  have hc:=bH hi'
  have hm:=Fr.yH (W:=total d) hW (Nat.mul_le_mul_left Vbdeab.M (Fr.HY (d:=d) (Nat.le_succ i)))
  refine df _ rfl (.inl ⟨rfl,_,a5.of hL1⟩) (eY _ rfl _ rfl _ _ rfl rfl (i5 L _ _ rfl rfl hL1 (by rw [bf,hacc];show i<2 ^ 24;omega) ?_))
  refine df _ rfl hi' (cK _ (acc++ [ceilDiv (Vbdeab.M*Fr.dF d (i+1)) (total d) - ceilDiv (Vbdeab.M*Fr.dF d i) (total d)]) rfl (b8 (by rw [bZ,hacc];rfl) ?_ ?_ fun b o e=>?_))
  ·rw [hsh,Fr.G7 hc,List.append_assoc]
   rfl
  ·rw [af,←gz,sI hm]
  ·rw [ak (aw e hL)]
   exact sm b o e
 ·rintro σ H1 U
  obtain⟨hi,w1,acc,rfl,hacc,hsh,hL1,sm⟩:=U
  rw [hlen,Fr.IG,vU] at hsh
  rw [←hsh] at hL1
  exact⟨_,rfl,k H1 L hL1 sm hL⟩
def wK (T:Tx K mg):Sp:=fun vs H Q _=>∃(av:List Addr) (a:Addr) (d:Dist),vs= [.ref a]∧fb T av H a d∧∀(H':Hp) (p:Addr) (ts:List Addr),H' p=some (.lst (ts.map V.ref))→d9 (fun H x c=>jr T H x c) H' ts (taken d)→aC H H'→Q (.ref p) H'
theorem iS (T:Tx K mg):dO P w base T.fT 1 (wK T):=by
 refine T.fT.okA fK ?_
 rintro _ A _ s H _ Q E hr
 refine d7 ?_
 rintro av a d rfl U1 k
 refine lC (fun dx wl sl bl el as D=>?_) U1
 refine⟨_,(ae (aj (j9 (own:= [("weight",1),("shape",2)]) rfl fK.nd (OV rfl T.Qo (ab (ao (pv 0) rfl) (ab (ao (pv 0) rfl) ad))) (ci (N:= ["distribution","weight","shape"]) (sc:=ag jJ) (by decide+kernel)) (fun _ _ _ _ _=>(Bq (K':=K) (n:=2) rfl (eX (kZ 1 fK.nd) (eX (kZ 2 fK.nd) qI)) rfl rfl rfl)) (fun _ _ _ _ _=>(Fg (aR vD (pv 1) am (aY _)))) (fun _ _ _ _ _=>(Mq (ab (pv 1) (ab (pv 2) ad))))))),?_⟩
 have dl:=D.ok.len2
 refine aM _ rfl a _ dx _ _ rfl D.inst T.ai.cl (T.ai.no _ ()) rfl (aM _ rfl a _ dx _ _ rfl D.inst T.ai.cl (T.ai.no _ ()) rfl ⟨wl,(bY sl _ _ rfl (a5.of D.w) (a5.of D.s) fun L hL=>OM (xs:=dJ (d.map fun c=>c.1)) (ys:=as.map V.ref) (fun i H'=>i≤d.length∧∃ts,H' L=some (.lst (ts.map V.ref))∧d9 (fun H x c=>jr T H x c) H' ts (taken (d.take i))∧aC H H') (mU (bo _) ([]) af (d9.nil _ _) (aC.laid hL)) (by rw [bf,aD,aD,D.len]) (fun i H' _ ⟨_,_,_,_,s⟩=>⟨a5.of (s _ _ D.w),a5.of (s _ _ D.s)⟩) ?_ ?_)⟩)
 ·rintro i x y H1 t hx hy ⟨hi,ts,hL1,pa,sm⟩ ht
  refine a4 ?_ (qk hx)
  rintro n hn rfl
  refine a4 ?_ (gH hy)
  rintro z hz rfl
  rw [du] at hn
  refine a4 ?_ (mW.mp hn)
  rintro c hc rfl
  have hi':=(cg.mp hc).1
  have st:=aC.laid (o:= .tup [.int (c.1:Nat),.ref z]) ht
  have ntl:L≠t:=aw hL1 ht
  refine bV t _ rfl (HU.of af) (kQ rfl _ (eu _ rfl _ _ rfl rfl rfl (lA _ rfl _ _ rfl rfl _ rfl (aX (fun h1=>?_) (fun h1=>?_)))))
  ·have h1':0<c.1:=by have:=bn h1;omega
   refine pO _ rfl _ rfl rm fun q hq=>?_
   have sq:=aC.laid (o:= .tup [.int (c.1:Nat),.ref z]) hq
   have hL2:=sq _ _ (st _ _ hL1)
   have S2:=(sm.trans st).trans sq
   refine df _ hL2 ?_ (mU hi' (ts++ [q]) ?_ ?_ fun b o e=>?_)
   ·rw [aD,pa.1]
    have:=u9 (d.take i)
    rw [ii] at this
    show _<2 ^ 24
    omega
   ·rw [af,yb]
   ·rw [CU hc,if_pos h1']
    refine d9.lst (G8 T) (((pa.same (G8 T) st).same (G8 T) sq).snoc (x:=z) af ((D.sh i z c hz hc).same S2)) hL2
   ·rw [ak (aw e hL)]
    exact S2 b o e
  ·have h1':¬0<c.1:=fun q=>h1 (aE ⋯)
   refine mU hi' ts (st _ _ hL1) ?_ (sm.trans st)
   rw [CU hc,if_neg h1',vU]
   exact pa.same (G8 T) st
 ·rintro H1
  refine pQ fun hi ts hL1 pa sm=>?_
  rw [bf,aD,jU] at pa
  exact k H1 L ts hL1 pa sm
open Vbdeab (Class Dist)
theorem Gz (num den:Class→Int) (b:Int):∀(l r:Dist),Fr.ij num den b (l++r)=Fr.ij num den b l+Fr.ij num den b r
 | [],r=>by rw [HJ];show _=0+_;rw [kt]
 | c::l,r=>by rw [HD,Fr.l8,Fr.l8,Gz num den b l r,Int.add_assoc]
theorem kE (num den:Class→Int) (b:Int):∀d:Dist,Fr.ij num den b (taken d)=Fr.ij num den b d
 | []=>rfl
 | c::r=>by
  have ih:=kE num den b r
  unfold taken at ih⊢
  rw [uJ]
  by_cases q:0<c.1
  ·rw [if_pos (aE q),Fr.l8,Fr.l8,ih]
  ·rw [if_neg (by simp;omega),Fr.l8,ih,if_neg q,kt]
theorem yO {num den:Class→Int} {b:Int} {l:Dist} {i:Nat} {c:Nat×Class} (h:l[i]?=some c) (hc:0<c.1):Fr.ij num den b (l.take (i+1))=Fr.ij num den b (l.take i)+(c.1:Int)*num c.2*(b /den c.2):=by
 rw [Ch.bA h,Gz]
 show _+((if 0<c.1 then _ else 0)+0)=_
 rw [if_pos hc,Int.add_zero]
theorem Ib {c:Class} (ok:vw c):Sz 300 (Fr.FR c):=by
 refine nl (fun b0 bz oz rz=>?_) (iT ok)
 cases c with
 | line x y=>exact((show Sz 2 2 by decide).mul oz (k:=182)).add rz (k:=300)
 | comb x s n=>
  have nz:=jP (gf ok).2.2.2
  have n1:=(gf ok).2.2.1
  exact((show Sz 2 2 by decide).mul oz (k:=182)).add (rz.mul (nz.le ⋯) (k:=241)) (k:=300)
theorem Ft {c:Class} (ok:vw c):Sz 600 (Fr.uk c):=by
 refine nl (fun b0 bz oz rz=>?_) (iT ok)
 have o6:=(show Sz 3 6 by decide).mul oz (k:=183)
 cases c with
 | line x y=>exact(o6.mul (oz.add rz (k:=182)) (k:=365)).add (((show Sz 2 2 by decide).mul rz (k:=183)).mul rz (k:=364)) (k:=600)
 | comb x s n=>
  have nz:=jP (gf ok).2.2.2
  have n1:=(gf ok).2.2.1
  have nz1:Sz 60 ((n:Int) - 1):=nz.le ⋯
  have wz:=rz.mul nz1 (k:=241)
  exact(o6.mul (oz.add wz (k:=242)) (k:=425)).add ((rz.mul wz (k:=422)).mul (((show Sz 2 2 by decide).mul nz (k:=62)).sub (show Sz 1 1 by decide) (k:=63)) (k:=485)) (k:=600)
theorem Ht {d:Dist} (ok:Oi d) {c:Nat×Class} (h:c∈d):Sz 133 ((c.1:Nat):Int):=by
 obtain⟨i,hi,e⟩:=List.getElem_of_mem h
 have hc:d[i]?=some c:=by rw [bH hi,e]
 have h1:=Fr.jz hc
 have h2:=kC d (i+1)
 exact eI (rV (by have:=ok.tot2;omega))
def rh (T:Tx K mg):Sp:=fun vs H Q _=>∃(av:List Addr) (a:Addr) (d:Dist),vs= [.ref a]∧fb T av H a d∧∀(H':Hp) (p x y:Addr),H' p=some (.lst [.ref x,.ref y])→j2 T H' x (Vbdeab.mean d)→j2 T H' y (variance d)→aC H H'→Q (.ref p) H'
theorem qD (T:Tx K mg):dO P w base T.iC 4 (rh T):=by
 refine T.iC.okA aL ?_
 rintro _ A _ s H _ Q E hr
 refine d7 ?_
 rintro av a d rfl hD k
 refine⟨_,(ac (aZ 1 aL.nd (bj T.fT (iS T) hr (ab (pv 0) ad)))
   (ac (aZ 4 aL.nd (bj T.jY (nE T) hr (ab (j9 (own:= [("weight",2),("shape",3)]) rfl aL.nd (cF (pv 1)) (ci (N:= ["distribution","classes","weight","shape","parts","bottom","squared","means","squares","total","mean","variance"]) (sc:=ag gg) (by decide+kernel)) (fun _ _ _ _ _=>(Bq (K':=K) (n:=2) rfl (eX (kZ 2 aL.nd) (eX (kZ 3 aL.nd) qI)) rfl rfl rfl)) (fun _ _ _ _ _=>dS) (fun _ _ _ _ _=>(xK (K':=K) (pv 3) (by rfl) rfl))) ad)))
   (ac (aZ 5 aL.nd (bj T.vg (xH T) hr (ab (pv 4) ad)))
   (ac (aZ 6 aL.nd (aB aJ (pv 5) (pv 5)))
   (ac (aZ 7 aL.nd am)
   (ac (aZ 8 aL.nd am)
   (ac (eh cM rfl (cF (pv 1)) (Fe rfl (eX (kZ 2 aL.nd) (eX (kZ 3 aL.nd) qI))) (ac (ou (i:=7) aL.nd rfl (Or.inl rfl) (aB aJ (aB aJ (pv 2) (wp (eO (pv 3) T.iw (qx T) hr) (eO (pv 3) T.iq (qu T) hr))) (aB cD (pv 5) (ao (pv 3) rfl))) mw)
   (ae (ou (i:=8) aL.nd rfl (Or.inl rfl) (aB aJ (aB aJ (pv 2) (wp (eO (pv 3) T.gq (oq T) hr) (eO (pv 3) T.gn (om T) hr))) (aB cD (pv 6) (aB aJ (ao (pv 3) rfl) (ao (pv 3) rfl)))) mw))))
   (ac (aZ 9 aL.nd (ao (pv 0) rfl))
   (ac (aZ 10 aL.nd (bj T.iM (kG T) hr (ab (pv 7) (ab (aB fe (aI (ab am (ab (pv 9) ad))) (pv 4)) ad))))
   (ac (aZ 11 aL.nd (bj T.iM (kG T) hr (ab (aB cb (aB aJ (aB aJ am (pv 9)) (pv 8)) (aB aJ (aB aJ am (pv 7)) (pv 7))) (ab (aB fe (aB fe (aI (ab am (ab (pv 9) (ab (pv 9) ad)))) (pv 4)) (pv 4)) ad))))
   (ae (aj (aI (ab (pv 10) (ab (pv 11) ad))))))))))))))),?_⟩
 refine lC (fun dx wl sl bl el as D=>?_) hD
 have dl:=D.ok.len2
 have hW:0<total d:=D.ok.tot1
 have tz:Sz 133 ((total d:Nat):Int):=eI (rV D.ok.tot2)
 refine bJ _ rfl (h9 av a d rfl hD fun H1 L ts hL pa s1=>?_)
 have tl:=u9 d
 have okt:∀c∈taken d,vw c.2:=fun c hc=>D.ok.cls c (kN hc).1
 refine pO _ rfl L rfl ⟨_,a5.of hL⟩ fun B hB=>jD (xs:=ts.map V.ref) (fun i H'=>i≤ts.length∧H' B=some (.lst ((((taken d).take i).map fun c=>Fr.cB c.2).map V.int))∧aC H1 H') ⟨bo _,af,aC.laid hB⟩ (fun i H' _ h=>a5.of (h.2.2 _ _ hL)) ?_ ?_
 ·rintro i v H2 hv
  refine gk fun hi hB2 s2=>?_
  refine a4 ?_ (gH hv)
  rintro t ht rfl
  have hi':=(cg.mp ht).1
  obtain⟨c,hc⟩:∃c,(taken d)[i]?=some c:=⟨_,bH (by rw [←pa.1];exact hi')⟩
  refine a4 (fun x et hsh=>?_) (pa.2 i t _ ht hc)
  refine FK (fun C dc fs f1 f2 f3 f4 f5 _=>?_) (zm (hsh.same s2))
  refine bV t _ rfl (HU.of (s2 _ _ et)) (kQ rfl _ (eu _ rfl _ _ rfl rfl rfl (aM _ rfl x C dc fs _ rfl f1 f2 f3 f5 (bJ _ hB2 (b8 (by rw [aD,aD,ii];show _<2 ^ 24;omega) hi' ?_ fun b o e=>?_)))))
  ·rw [af,Ch.bA hc,dB,xw]
   rfl
  ·rw [ak (aw e hB)]
   exact s2 b o e
 rintro H2
 refine gk fun hi hB2 s2=>?_
 rw [aD,pa.1,jU] at hB2
 refine cK B _ rfl (b8 (a5.of hB2) (by rw [aD];omega) (fun z hz=>?_) fun H3 pl ps hp3 PP s3 _=>?_)
 ·refine a4 ?_ (lV.mp hz)
  rintro c hc rfl
  refine gk (fun b0 bz _=>?_) (iT (okt c hc))
  exact⟨b0,bz.mono ()⟩
 have S3:=s2.trans s3
 have pl1:ps.length≤64:=by rw [PP.len,aD];omega
 have bz0:=tW PP.sz ps.length
 rw [l9] at bz0
 have bz:Sz 16100 (fy ps):=bz0.mono ⋯
 have b0:=PP.pp
 refine cy _ rfl pl ps rfl (a5.of hp3) (fi ⋯ (fun z hz=>(PP.sz z hz).mono ()) ?_)
 generalize hbt:fy ps=bt at*
 refine bJ _ rfl (eu _ rfl _ _ rfl rfl (bE bz bz) ?_)
 have b2z:Sz 32200 (bt*bt):=bz.mul bz (k:=32200)
 have pa3:=pa.same (G8 T) S3
 have hL3:=S3 _ _ hL
 have dvd:∀c∈taken d,Fr.cB c.2∣bt:=fun c hc=>by rw [←hbt];exact PP.dvd _ (lV.mpr ⟨c,hc,rfl⟩)
 refine pO _ rfl L rfl ⟨_,a5.of hL3⟩ (eE (xs:=ts.map V.ref) (fun i σ H'=>H'=H3∧i≤ts.length∧∃v1 v2 v3 v4 v5:Option V,σ= [some (.ref a),some (.ref L),v1,v2,some (.ref pl),some (.int bt),some (.int (bt*bt)),some (.int (Fr.ij Fr.FR Fr.cB bt ((taken d).take i))),some (.int (Fr.ij Fr.uk Fr.LA (bt*bt) ((taken d).take i))),v3,v4,v5]∧Sz (40000+i) (Fr.ij Fr.FR Fr.cB bt ((taken d).take i))∧Sz (40000+i) (Fr.ij Fr.uk Fr.LA (bt*bt) ((taken d).take i))) (fi rfl (bo _) (oE none none (h9 none none none rfl (wU _) (wU _)))) (fun i σ H' _ h=>by rw [h.1];exact a5.of hL3) ?_ ?_)
 ·rintro i v σ H4 hv
  refine NX ?_
  rintro rfl hi v1 v2 v3
  refine yw ?_
  rintro v4 v5 rfl mz sz
  refine a4 ?_ (gH hv)
  rintro t ht rfl
  have hi':=(cg.mp ht).1
  obtain⟨c,hc⟩:∃c,(taken d)[i]?=some c:=⟨_,bH (by rw [←pa.1];exact hi')⟩
  refine a4 (fun x et hsh=>?_) (pa3.2 i t _ ht hc)
  have hcm:=eR hc
  have okc:=okt c hcm
  have cpos:=(kN hcm).2
  have wz:=Ht D.ok (kN hcm).1
  refine gk (fun cb0 cbz _=>?_) (iT okc)
  refine FK (fun C dc fs f1 f2 f3 f4 f5 _=>?_) (zm hsh)
  have q1:=bz.ediv (y:=Fr.cB c.2) cb0
  have cb20:=eZ cb0 cb0
  have cb2z:=cbz.mul cbz (k:=240)
  have q2:=b2z.ediv (y:=Fr.cB c.2*Fr.cB c.2) cb20
  have m1:=wz.mul (Ib okc) (k:=433)
  have m2:=wz.mul (Ft okc) (k:=733)
  have n1:=yO (num:=Fr.FR) (den:=Fr.cB) (b:=bt) hc cpos
  have n2:=yO (num:=Fr.uk) (den:=Fr.LA) (b:=bt*bt) hc cpos
  have end1:Sz (40000+(i+1)) (Fr.ij Fr.FR Fr.cB bt ((taken d).take (i+1))):=by
   rw [n1]
   exact mz.add (m1.mul q1 (k:=39000)) ⋯ ⋯
  have end2:Sz (40000+(i+1)) (Fr.ij Fr.uk Fr.LA (bt*bt) ((taken d).take (i+1))):=by
   rw [n2]
   exact sz.add (m2.mul q2 (k:=39000)) ⋯ ⋯
  have fin:∀v1 v2 v3 v4 v5:Option V,∃u1 u2 u3 u4 u5:Option V,[some (.ref a),some (.ref L),v1,v2,some (.ref pl),some (.int bt),some (.int (bt*bt)),some (.int (Fr.ij Fr.FR Fr.cB bt ((taken d).take i)+(c.1:Int)*Fr.FR c.2*(bt /Fr.cB c.2))),some (.int (Fr.ij Fr.uk Fr.LA (bt*bt) ((taken d).take i)+(c.1:Int)*Fr.uk c.2*(bt*bt /(Fr.cB c.2*Fr.cB c.2)))),v3,v4,v5]= [some (.ref a),some (.ref L),u1,u2,some (.ref pl),some (.int bt),some (.int (bt*bt)),some (.int (Fr.ij Fr.FR Fr.cB bt ((taken d).take (i+1)))),some (.int (Fr.ij Fr.uk Fr.LA (bt*bt) ((taken d).take (i+1)))),u3,u4,u5]:=fun v1 v2 v3 v4 v5=>⟨v1,(oE v2 v3 (oE v4 v5 (by rw [n1,n2];rfl)))⟩
  refine bV t _ rfl (HU.of et) (kQ rfl _ (cy _ rfl _ _ rfl rfl ?_))
  obtain⟨cw,cc⟩:=c
  cases cc with
  | line p q=>
   refine d7 (fun dz ax ay h1 h2 h3=>?_) hsh
   refine bD _ rfl _ rfl (.inl (cP _ rfl x dz _ rfl h1 rfl (bY x p q rfl hsh okc (bR _ _ rfl rfl (bE wz (Ib okc)) (i4 _ rfl _ rfl x C dc fs _ rfl f1 f2 f3 f5 (bR _ _ rfl rfl (qd cb0 (cbz.mono ())) (jt _ _ rfl rfl (bE m1 q1) _ _ rfl rfl ?_)))))))
   refine bD _ rfl _ rfl (.inl (cP _ rfl x dz _ rfl h1 rfl (bY x p q rfl hsh okc (bR _ _ rfl rfl (bE wz (Ft okc)) (i4 _ rfl _ rfl x C dc fs _ rfl f1 f2 f3 f5 (aM _ rfl x C dc fs _ rfl f1 f2 f3 f5 (bR _ _ rfl rfl (bE cbz cbz) (bR _ _ rfl rfl (qd cb20 (cb2z.mono ())) (jt _ _ rfl rfl (bE m2 q2) _ _ rfl rfl ?_)))))))))
   obtain⟨u1,u2,u3,u4,u5,ee⟩:=fin _ _ _ _ _
   exact fi rfl hi' (oE u1 u2 (h9 u3 u4 u5 ee end1 end2))
  | comb p q n=>
   refine d7 (fun dz ax ay h1 h2 h3=>?_) hsh
   refine bD _ rfl _ rfl (.inr (cP _ rfl x dz _ rfl h1 rfl ⟨x,(bY p q n rfl hsh okc (bR _ _ rfl rfl (bE wz (Ib okc)) (i4 _ rfl _ rfl x C dc fs _ rfl f1 f2 f3 f5 (bR _ _ rfl rfl (qd cb0 (cbz.mono ())) (jt _ _ rfl rfl (bE m1 q1) _ _ rfl rfl ?_)))))⟩))
   refine bD _ rfl _ rfl (.inr (cP _ rfl x dz _ rfl h1 rfl ⟨x,(bY p q n rfl hsh okc (bR _ _ rfl rfl (bE wz (Ft okc)) (i4 _ rfl _ rfl x C dc fs _ rfl f1 f2 f3 f5 (aM _ rfl x C dc fs _ rfl f1 f2 f3 f5 (bR _ _ rfl rfl (bE cbz cbz) (bR _ _ rfl rfl (qd cb20 (cb2z.mono ())) (jt _ _ rfl rfl (bE m2 q2) _ _ rfl rfl ?_)))))))⟩))
   obtain⟨u1,u2,u3,u4,u5,ee⟩:=fin _ _ _ _ _
   exact fi rfl hi' (oE u1 u2 (h9 u3 u4 u5 ee end1 end2))
 rintro σ H4
 refine NX ?_
 rintro rfl hi v1 v2 v3
 refine yw ?_
 rintro v4 v5 rfl mz sz
 rw [aD,pa.1,jU,kE] at mz
 rw [aD,pa.1,jU,kE] at sz
 rw [aD,pa.1,jU,kE,kE]
 have lowd:=D.ok.low
 have dvd':∀c∈d,0<c.1→Fr.cB c.2∣bt:=fun c hc q=>dvd c (by unfold taken;exact Dc.mpr ⟨hc,aE q⟩)
 have mean:=(Fr.JC b0 lowd dvd' hW).eq
 have var:=(Fr.Pc b0 lowd dvd' hW).eq
 generalize hM:Fr.ij Fr.FR Fr.cB bt d=MM at*
 generalize hS:Fr.ij Fr.uk Fr.LA (bt*bt) d=SS at*
 have mz':Sz 41000 MM:=mz.mono ⋯
 have sz':Sz 41000 SS:=sz.mono ⋯
 have t2:=(show Sz 2 2 by decide).mul tz (k:=135)
 refine aM _ rfl a _ dx _ _ rfl (S3 _ _ (s1 _ _ D.inst)) T.ai.cl (T.ai.no _ ()) rfl ?_
 refine pO _ rfl _ rfl rm fun F1 hF1=>?_
 have sf1:=aC.laid (o:= .lst [.int 2,.int ((total d:Nat):Int)]) hF1
 refine gP _ rfl F1 pl _ _ rfl rfl af (sf1 _ _ hp3) (by rw [aD];show 2+ps.length≤2 ^ 24;omega) fun F2 hF2=>?_
 have sf2:=aC.laid (o:= .lst ([V.int 2,V.int ((total d:Nat):Int)]++ps.map V.int)) hF2
 have tpos:(0:Int)<((total d:Nat):Int):=by omega
 have ppos:∀z∈ps,0<z∧Sz 250 z:=fun z hz=>⟨PP.pos z hz,PP.sz z hz⟩
 refine i5 F2 MM ([2,((total d:Nat):Int)]++ps) rfl (a5.of (by rw [af,dB];rfl)) (by rw [bZ];show 2+ps.length≤1000;omega) (fun z hz=>?_) fun x1 H5 hx1 s5=>?_
 ·rcases jT.mp hz with q | q
  ·rcases cH.mp q with q | q
   ·rw [q];exact⟨(),()⟩
   ·rw [gQ] at q;rw [q];exact⟨tpos,tz.mono ()⟩
  ·exact ppos z q
 have e1:fy ([2,((total d:Nat):Int)]++ps)=2*bt*((total d:Nat):Int):=by
  rw [y9,hbt]
  show(1*2*((total d:Nat):Int))*bt=_
  grind
 rw [e1,←mean] at hx1
 have S5:=(sf1.trans sf2).trans s5
 have hp5:=S5 _ _ hp3
 refine eu _ rfl _ _ rfl rfl (bE (show Sz 2 2 by decide) tz) (eu _ rfl _ _ rfl rfl (bE t2 sz') (cy _ rfl _ _ rfl rfl (dt (bE (show Sz 2 3 by decide) mz') _ rfl (jt _ _ rfl rfl (bE ((show Sz 2 3 by decide).mul mz' (k:=41002)) mz') _ _ rfl rfl ?_))))
 refine pO _ rfl _ rfl (by show 3≤sizeLine;decide) fun F3 hF3=>?_
 have sf3:=aC.laid (o:= .lst [.int 12,.int ((total d:Nat):Int),.int ((total d:Nat):Int)]) hF3
 refine gP _ rfl F3 pl _ _ rfl rfl af (sf3 _ _ hp5) (by rw [aD];show 3+ps.length≤2 ^ 24;omega) fun F4 hF4=>?_
 have sf4:=aC.laid (o:= .lst ([V.int 12,V.int ((total d:Nat):Int),V.int ((total d:Nat):Int)]++ps.map V.int)) hF4
 refine gP _ rfl F4 pl _ _ rfl rfl af (sf4 _ _ (sf3 _ _ hp5)) (by rw [bZ,aD];show 3+ps.length+ps.length≤2 ^ 24;omega) fun F5 hF5=>?_
 have sf5:=aC.laid (o:= .lst ([V.int 12,V.int ((total d:Nat):Int),V.int ((total d:Nat):Int)]++ps.map V.int++ps.map V.int)) hF5
 refine i5 F5 _ ([12,((total d:Nat):Int),((total d:Nat):Int)]++ps++ps) rfl (a5.of (by rw [af,dB,dB];rfl)) (by rw [bZ,bZ];show 3+ps.length+ps.length≤1000;omega) (fun z hz=>?_) fun x2 H6 hx2 s6=>?_
 ·rcases jT.mp hz with q | q
  ·rcases jT.mp q with q | q
   ·rcases cH.mp q with q | q
    ·rw [q];exact⟨(),()⟩
    ·rcases cH.mp q with q | q
     ·rw [q];exact⟨tpos,tz.mono ()⟩
     ·rw [gQ] at q;rw [q];exact⟨tpos,tz.mono ()⟩
   ·exact ppos z q
  ·exact ppos z q
 have e2:fy ([12,((total d:Nat):Int),((total d:Nat):Int)]++ps++ps)=12*((total d:Nat):Int)*((total d:Nat):Int)*bt*bt:=by
  rw [y9,y9,hbt]
  show(1*12*((total d:Nat):Int)*((total d:Nat):Int))*bt*bt=_
  grind
 rw [e2,←var] at hx2
 have S6:=((sf3.trans sf4).trans sf5).trans s6
 refine pO _ rfl _ rfl rm fun p hp=>?_
 have sp:=aC.laid (o:= .lst [V.ref x1,V.ref x2]) hp
 exact k _ p x1 x2 af ((hx1.same S6).same sp) (hx2.same sp) ((((s1.trans S3).trans S5).trans S6).trans sp)
open Vbdeab (Class Dist)
def mr (T:Tx K mg) (H:Hp) (rs:List Addr) (l:List Vbdeab.Q):Prop:=rs.length=l.length∧∀(j:Nat) r q,rs[j]?=some r→l[j]?=some q→mq T H r q
theorem mr.si {T:Tx K mg} {H H':Hp} {rs:List Addr} {l:List Vbdeab.Q} (h:mr T H rs l) (s:ib H H'):mr T H' rs l:=⟨h.1,fun j r q a b=>(h.2 j r q a b).si s⟩
theorem mr.nil (T:Tx K mg) (H:Hp):mr T H [] []:=⟨rfl,fun j t c a _=>by cases j<;>cases a⟩
theorem mr.snoc {T:Tx K mg} {H:Hp} {rs:List Addr} {l:List Vbdeab.Q} {r:Addr} {q:Vbdeab.Q} (h:mr T H rs l) (v:mq T H r q):mr T H (rs++ [r]) (l++ [q]):=by
 refine⟨by rw [bZ,bZ,h.1];rfl,fun j t' c' a b=>?_⟩
 rcases C0 j rs.length with z | z | z
 ·rw [n8 z] at a
  rw [n8 (by rw [←h.1];exact z)] at b
  exact h.2 j t' c' a b
 ·rw [z,n9 (bq _),uF] at a
  rw [z,h.1,n9 (bq _),uF] at b
  cases a
  cases b
  exact v
 ·rw [uK (by rw [bZ];exact z)] at a
  cases a
theorem Kh {l:Dist} {i:Nat} {c:Nat×Class} (h:l[i]?=some c):Fr.iR (l.take (i+1))=Fr.iR (l.take i)++ [Fr.rW c.2]++ [Fr.AF c.2]:=by
 unfold Fr.iR
 rw [Ch.bA h,List.flatMap_append]
 simp
theorem Ga (l:Dist):(Fr.iR l).length=2*l.length:=by
 unfold Fr.iR
 induction l with
 | nil=>rfl
 | cons c r ih=>simp only [HF,bZ,ih,d8,List.length_nil];omega
theorem Hs {d:Dist} (ok:Oi d):taken d≠ []:=fun h=>by
 have:∀l:Dist,taken l= []→total l=0:=fun l hl=>by
  induction l with
  | nil=>rfl
  | cons c r ih=>
   unfold taken at hl ih
   rw [uJ] at hl
   split at hl
   ·cases hl
   ·rename_i q
    have:c.1=0:=by simp at q;exact q
    unfold total at ih⊢
    rw [e9,Ch.sum_cons,ih hl,this]
 have:=this d h
 have:=ok.tot1
 omega
def pI (T:Tx K mg):Sp:=fun vs H Q _=>∃(av:List Addr) (a:Addr) (d:Dist),vs= [.ref a]∧fb T av H a d∧∀(H':Hp) (p x y:Addr),H' p=some (.lst [.ref x,.ref y])→j2 T H' x (Vbdeab.least d)→j2 T H' y (Vbdeab.most d)→aC H H'→Q (.ref p) H'
theorem o0 (T:Tx K mg):dO P w base T.gX 4 (pI T):=by
 refine T.gX.okA bi ?_
 rintro _ A _ s H _ Q E hr
 refine d7 ?_
 rintro av a d rfl hD k
 refine⟨_,(ac (aZ 1 bi.nd (aI ad))
   (ac (eh cM rfl (cF (bj T.fT (iS T) hr (ab (pv 0) ad))) (Fe rfl (eX (kZ 2 bi.nd) (eX (kZ 3 bi.nd) qI))) (ac (gw (rZ lM uG uH jg (pv 1) (ab (ao (pv 3) rfl) ad)))
   (ae (gw (rZ lM uG uH jg (pv 1) (ab (wp (eO (pv 3) T.mY (xA T) hr) (eO (pv 3) T.mX (xy T) hr)) ad))))))
   (ac (aZ 4 bi.nd (ip (pv 1) am))
   (ac (aZ 5 bi.nd (ip (pv 1) am))
   (ac (eh cM rfl (cF (pv 1)) (kZ 6 bi.nd) (ac (aT (aS (zN (pv 6) T.eD (fv T) hr (ab (pv 4) ad))) (ae (aZ 4 bi.nd (pv 6))) aG)
   (ae (aT (aS (zN (pv 5) T.eD (fv T) hr (ab (pv 6) ad))) (ae (aZ 5 bi.nd (pv 6))) aG))))
   (ae (aj (aI (ab (eO (pv 4) T.eM (eW T) hr) (ab (eO (pv 5) T.eM (eW T) hr) ad)))))))))),?_⟩
 refine lC (fun dx wl sl bl el as D=>?_) hD
 have dl:=D.ok.len2
 have okt:∀c∈taken d,vw c.2:=fun c hc=>D.ok.cls c (kN hc).1
 have tl:=u9 d
 refine⟨bo _,fun E hE=>?_⟩
 have sE:=aC.laid (o:= .lst []) hE
 refine bJ _ rfl (h9 av a d rfl (hD.same sE) fun H1 L ts hL pa s1=>?_)
 have hE1:=s1 _ _ (af (H:=H) (a:=E) (o:= .lst []))
 refine df L rfl ⟨_,a5.of hL⟩ (eE (xs:=ts.map V.ref) (fun i σ H'=>i≤ts.length∧∃(v1 v2 v3 v4 v5:Option V) (rs:List Addr),σ= [some (.ref a),some (.ref E),v1,v2,v3,v4,v5]∧H' E=some (.lst (rs.map V.ref))∧mr T H' rs (Fr.iR ((taken d).take i))∧(∀b o,H1 b=some o→b≠E→H' b=some o)) (kQ (bo _) none (oE none none (bY none none ([]) rfl hE1 (mr.nil T H1) fun b o e _=>e))) (fun i σ H' _ h=>?_) ?_ ?_)
 ·refine Pe (fun _ _ _ _ _ _ _ _ _ _ kp=>?_) h
  exact a5.of (kp _ _ hL (fun z=>by rw [z,hE1] at hL;cases ts with
   | nil=>have:=pa.1;exact absurd (EF this.symm) (Hs D.ok)
   | cons t r=>cases hL))
 ·rintro i v σ H2 hv
  refine Pe ?_
  rintro hi v1 v2 v3 v4 v5 rs rfl hE2 hV kp
  refine a4 ?_ (gH hv)
  rintro t ht rfl
  have hi':=(cg.mp ht).1
  obtain⟨c,hc⟩:∃c,(taken d)[i]?=some c:=⟨_,bH (by rw [←pa.1];exact hi')⟩
  refine a4 (fun x et hsh1=>?_) (pa.2 i t _ ht hc)
  have okc:=okt c (eR hc)
  have k12:ib H1 H2:=fun b C dx fs e=>kp _ _ e (bg e hE1 (by intro z;cases z))
  have hsh:=hsh1.si k12
  have et2:=kp _ _ et (bg et hE1 (by intro z;cases z))
  refine FK (fun C dc fs f1 f2 f3 f4 f5=>?_) (zm hsh)
  refine a4 fun ax f6 hq=>?_
  have hlen:(rs.map V.ref).length≤200:=by rw [aD,hV.1,Ga,ii];omega
  have near:mq T H2 ax (Fr.rW c.2):=by
   have hn:jf (Fr.rW c.2):=by
    obtain⟨cw,cc⟩:=c
    cases cc with
    | line p q=>exact(E2 okc).1
    | comb p q n=>exact(gf okc).1
   exact bR _ _ hq hn.2.iz ((cJ hn.1).1.mono ()) ((cJ hn.1).2.mono ())
  refine bV t _ rfl (HU.of et2) (kQ rfl _ (cy _ rfl _ _ rfl rfl ?_))
  refine df _ rfl (.inl ⟨rfl,_,a5.of hE2⟩) (aM _ rfl x C dc fs _ rfl f1 f2 f4 f6 (i5 E _ _ rfl rfl hE2 (by show _<2 ^ 24;omega) ?_))
  have k3:ib H2 (bT H2 E (.lst (rs.map V.ref++ [V.ref ax]))):=ib.lst hE2
  have hsh3:=hsh.si k3
  have fin:∀(z:Addr) (H4:Hp) (n m:Int),fI T H4 z n m→Fr.Iz (Fr.AF c.2) n m→Sz 400 n→Sz 400 m→aC (bT H2 E (.lst (rs.map V.ref++ [V.ref ax]))) H4→∃l xs y,V.ref E= .ref l∧ [V.ref z]= [y]∧H4 l=some (.lst xs)∧xs.length<sizeLine∧(i+1≤ts.length∧∃(u1 u2 u3 u4 u5:Option V) (rs':List Addr),[some (.ref a),some (.ref E),some (V.int (c.1:Nat)),some (V.ref x),v3,v4,v5]= [some (.ref a),some (.ref E),u1,u2,u3,u4,u5]∧(bT H4 l (.lst (xs++ [y]))) E=some (.lst (rs'.map V.ref))∧mr T (bT H4 l (.lst (xs++ [y]))) rs' (Fr.iR ((taken d).take (i+1)))∧(∀b o,H1 b=some o→b≠E→(bT H4 l (.lst (xs++ [y]))) b=some o)):=fun z H4 n m hz iz nz mz s4=>by
   have hE4:=s4 _ _ (af (H:=H2) (a:=E))
   refine i5 E _ _ rfl rfl hE4 ?_ (kQ hi' _ (oE _ _ (bY _ _ (rs++ [ax]++ [z]) rfl ?_ ?_ fun b o e hb=>?_)))
   ·rw [bZ]
    show _+1<2 ^ 24
    omega
   ·rw [af,yb,yb]
   ·rw [Kh hc]
    exact(((((hV.snoc near).si k3).si (aC.i s4)).snoc (bR n m hz iz (nz.mono ()) (mz.mono ())))).si (ib.lst hE4)
   ·rw [ak hb]
    exact s4 _ _ (by rw [ak hb];exact kp b o e hb)
  obtain⟨cw,cc⟩:=c
  cases cc with
  | line p q=>
   refine d7 (fun dz bx by' h1 h2 h3=>?_) hsh3
   exact df _ rfl (.inl ⟨rfl,_,a5.of af⟩) (.inl (cP _ rfl x dz _ rfl h1 rfl (bY x p q rfl hsh3 okc fin)))
  | comb p q n=>
   refine d7 (fun dz bx by' h1 h2 h3=>?_) hsh3
   exact df _ rfl (.inl ⟨rfl,_,a5.of af⟩) (.inr (cP _ rfl x dz _ rfl h1 rfl ⟨x,(bY p q n rfl hsh3 okc fin)⟩))
 ·rintro σ H2
  refine Pe ?_
  rintro hi v1 v2 v3 v4 v5 rs rfl hE2 hV kp
  rw [aD,pa.1,jU] at hV
  have hne:=Hs D.ok
  have lowE:∀z∈Fr.iR (taken d),Fr.lowQ z:=Fr.BH fun c hc=>(okt c hc).2
  have l0:0<(Fr.iR (taken d)).length:=by
   rw [Ga]
   cases h:taken d with
   | nil=>exact absurd h hne
   | cons c r=>rw [d8];omega
  have sH2:aC H H2:=fun b o e=>kp b o (s1 _ _ (sE _ _ e)) (aw e hE)
  generalize hl:Fr.iR (taken d)=l at*
  obtain⟨r0,g0⟩:∃r0,rs[0]?=some r0:=⟨_,bH (show 0<rs.length by rw [hV.1];exact l0)⟩
  obtain⟨e0,q0⟩:∃e0,l[0]?=some e0:=⟨_,bH l0⟩
  have V0:=hV.2 0 _ _ g0 q0
  refine bQ _ rfl E _ _ _ rfl rfl (a5.of hE2) (vy (j:=0) rfl (by rw [du,g0];rfl)) ?_
  refine bQ _ rfl E _ _ _ rfl rfl (a5.of hE2) (vy (j:=0) rfl (by rw [du,g0];rfl)) ?_
  refine pO _ rfl E rfl ⟨_,a5.of hE2⟩ (eE (xs:=rs.map V.ref) (fun i σ H'=>H'=H2∧∃(v1 v2 v5:Option V) (x y:Addr) (p q:Vbdeab.Q),σ= [some (.ref a),some (.ref E),v1,v2,some (.ref x),some (.ref y),v5]∧mq T H2 x p∧mq T H2 y q∧p∈l∧q∈l∧(∀z∈l.take i,p.le z=true)∧(∀z∈l.take i,z.le q=true)) (kQ rfl _ (ju _ _ r0 r0 e0 e0 rfl V0 V0 (eR q0) (eR q0) (fun z hz=>by simp at hz) fun z hz=>by simp at hz)) (fun i σ H' _ h=>by rw [h.1];exact a5.of hE2) ?_ ?_)
  ·rintro i v σ H3 hv U
   obtain⟨rfl,u1,u2,u5,x,y,p,q,rfl,Vx,Vy,pm,qm,ple,qle⟩:=U
   refine a4 ?_ (gH hv)
   rintro r hr rfl
   have hi':=(cg.mp hr).1
   obtain⟨e,hz⟩:∃e,l[i]?=some e:=⟨_,bH (show i<l.length by rw [←hV.1];exact hi')⟩
   have Vr:=hV.2 i r e hr hz
   have em:=eR hz
   refine tp (fun rn rd hrt riz rnz rdz=>?_) Vr
   refine tp (fun xn xd hxt xiz xnz xdz=>?_) Vx
   refine tp (fun yn yd hyt yiz ynz ydz=>?_) Vy
   obtain⟨dr,hrt'⟩:=id hrt
   obtain⟨dy,hyt'⟩:=id hyt
   have tk:=Ch.bA hz
   have lowz:∀z∈l.take i,Fr.lowQ z:=fun z hz=>lowE z (List.mem_of_mem_take hz)
   have second:∀(x':Addr) (p':Vbdeab.Q),mq T H3 x' p'→p'∈l→(∀z∈l.take (i+1),p'.le z=true)→True:=fun _ _ _ _ _=>trivial
   have step2:∀(x':Addr) (p':Vbdeab.Q),mq T H3 x' p'→p'∈l→(∀z∈l.take (i+1),p'.le z=true)→
     ∃(y':Addr) (q':Vbdeab.Q),(if yn*rd<rn*yd then y'=r else y'=y)∧mq T H3 y' q'∧q'∈l∧∀z∈l.take (i+1),z.le q'=true:=fun x' p' _ _ _=>by
    by_cases c:yn*rd<rn*yd
    ·refine bR r e (by rw [if_pos c]) (bR rn rd hrt riz rnz rdz) em fun z hz=>?_
     have qe:q.le e=true:=(yiz.le_iff riz).mpr ⋯
     rw [tk] at hz
     rcases jT.mp hz with h | h
     ·exact Fr.le_trans (lowz z h) yiz.lowQ riz.lowQ (qle z h) qe
     ·rw [gQ] at h
      rw [h];exact Fr.le_refl _
    ·refine bR y q (by rw [if_neg c]) (bR yn yd hyt yiz ynz ydz) qm fun z hz=>?_
     have qe:e.le q=true:=(riz.le_iff yiz).mpr ⋯
     rw [tk] at hz
     rcases jT.mp hz with h | h
     ·exact qle z h
     ·rw [gQ] at h
      rw [h];exact qe
   refine cP _ rfl r dr _ rfl hrt' rfl (fB _ rfl r x (j4 _ _ _ _ rfl hrt hxt (bE rnz xdz) (dt (bE xnz rdz) _ rfl (aX (fun h1=>?_) (fun h1=>?_)))))
   ·have h1':rn*xd<xn*rd:=bn h1
    have pe:e.le p=true:=(riz.le_iff xiz).mpr ⋯
    have ple':∀z∈l.take (i+1),e.le z=true:=fun z hz=>by
     rw [tk] at hz
     rcases jT.mp hz with h | h
     ·exact Fr.le_trans riz.lowQ xiz.lowQ (lowz z h) pe (ple z h)
     ·rw [gQ] at h
      rw [h];exact Fr.le_refl _
    have Ve:mq T H3 r e:=(bR rn rd hrt riz rnz rdz)
    refine tp (fun y' q' hy' Vq' qm' qle'=>?_) (step2 r e Ve em ple')
    refine bJ _ rfl (cP _ rfl y dy _ rfl hyt' rfl (fB _ rfl y r (j4 _ _ _ _ rfl hyt hrt (bE ynz rdz) (dt (bE rnz ydz) _ rfl (aX (fun h2=>?_) (fun h2=>?_))))))
    ·rw [if_pos (bn h2)] at hy'
     subst hy'
     exact bJ _ rfl (kQ rfl _ (ju _ _ _ _ e q' rfl Ve Vq' em qm' ple' qle'))
    ·rw [if_neg fun q=>h2 (aE q)] at hy'
     subst hy'
     exact kQ rfl _ (ju _ _ _ _ e q' rfl Ve Vq' em qm' ple' qle')
   ·have h1':¬rn*xd<xn*rd:=fun q=>h1 (aE q)
    have pe:p.le e=true:=(xiz.le_iff riz).mpr ⋯
    have ple':∀z∈l.take (i+1),p.le z=true:=fun z hz=>by
     rw [tk] at hz
     rcases jT.mp hz with h | h
     ·exact ple z h
     ·rw [gQ] at h
      rw [h];exact pe
    have Vp:mq T H3 x p:=(bR xn xd hxt xiz xnz xdz)
    refine tp (fun y' q' hy' Vq' qm' qle'=>?_) (step2 x p Vp pm ple')
    refine cP _ rfl y dy _ rfl hyt' rfl (fB _ rfl y r (j4 _ _ _ _ rfl hyt hrt (bE ynz rdz) (dt (bE rnz ydz) _ rfl (aX (fun h2=>?_) (fun h2=>?_)))))
    ·rw [if_pos (bn h2)] at hy'
     subst hy'
     exact bJ _ rfl (kQ rfl _ (ju _ _ _ _ p q' rfl Vp Vq' pm qm' ple' qle'))
    ·rw [if_neg fun q=>h2 (aE q)] at hy'
     subst hy'
     exact kQ rfl _ (ju _ _ _ _ p q' rfl Vp Vq' pm qm' ple' qle')
  ·rintro σ H3 U
   obtain⟨rfl,u1,u2,u5,x,y,p,q,rfl,Vx,Vy,pm,qm,ple,qle⟩:=U
   rw [aD,hV.1,jU] at ple qle
   have ep:Vbdeab.least d=p:=by
    refine Fr.jy.unique lowE ?_ ⟨pm,ple⟩
    rw [←hl]
    exact Fr.BA hne fun c hc=>(okt c hc).2
   have eq:Vbdeab.most d=q:=by
    refine Fr.mn.unique lowE ?_ ⟨qm,qle⟩
    rw [←hl]
    exact Fr.DY hne fun c hc=>(okt c hc).2
   refine tp (fun xn xd hxt xiz xnz xdz=>?_) Vx
   refine tp (fun yn yd hyt yiz ynz ydz=>?_) Vy
   obtain⟨d1,hxt'⟩:=id hxt
   obtain⟨d2,hyt'⟩:=id hyt
   refine cP _ rfl x d1 _ rfl hxt' rfl (i5 x xn xd rfl hxt xiz.dpos (xdz.mono ()) fun z1 H4 hz1 s4=>?_)
   refine cP _ rfl y d2 _ rfl (s4 _ _ hyt') rfl (i5 y yn yd rfl (hyt.same s4) yiz.dpos (ydz.mono ()) fun z2 H5 hz2 s5=>?_)
   refine⟨rm,fun pp hp=>?_⟩
   have sp:=aC.laid (o:= .lst [V.ref z1,V.ref z2]) hp
   rw [←xiz.eq] at hz1
   rw [←yiz.eq] at hz2
   rw [ep,eq] at k
   exact k _ pp z1 z2 af ((hz1.same s5).same sp) (hz2.same sp) (((sH2.trans s4).trans s5).trans sp)
open Vbdeab (Class Dist)
theorem qG {c:Class} (ok:vw c) {v:Vbdeab.Q} (okv:jf v) (s:Bool):0<Fr.vE c (v.den:Int)∧Sz 241 (Fr.vE c (v.den:Int))∧c.part s v=Vbdeab.mkQ (Fr.xJ c v.num (v.den:Int) (Fr.nk s)) (Fr.vE c (v.den:Int)).toNat∧Fr.lowQ (c.part s v)∧Sz 250 (c.part s v).num∧Sz 250 (((c.part s v).den:Nat):Int):=by
 refine nl (fun b0 bz oz rz=>?_) (iT ok)
 have v0:=gt okv.2
 have vz:=(cJ okv.1).2
 have iz:=Fr.NB ok.2 (fun x s n e=>by subst e;exact oe (gf ok).2.2.2 ()) okv.2.iz s
 have dz:Sz 241 (Fr.vE c (v.den:Int)):=by
  cases c with
  | line x y=>
   show Sz 241 (if Fr.cR (.line x y)=0 then 1 else Fr.vY (Fr.cR (.line x y))*(v.den:Int))
   split
   ·decide
   ·exact(Bj rz).mul vz
  | comb x y n=>exact(jP (gf ok).2.2.2).mono ()
 have nz:Sz 241 (Fr.xJ c v.num (v.den:Int) (Fr.nk s)):=by
  have cl:∀a m:Int,0≤m→Sz 241 m→Sz 241 (Fr.gc a m):=fun a m h z=>z.le (by unfold Fr.gc;repeat' split;all_goals omega)
  cases c with
  | line x y=>
   show Sz 241 (if Fr.cR (.line x y)=0 then _ else _)
   split
   ·split<;>decide
   ·exact cl _ _ (Int.mul_nonneg (Jh _) (fH v0)) ((Bj rz).mul vz)
  | comb x y n=>exact cl _ _ ⋯ ((jP (gf ok).2.2.2).mono ())
 have e:=iz.eq
 have gp:=dI (n:=Fr.xJ c v.num (v.den:Int) (Fr.nk s)) iz.dpos
 refine fi iz.dpos dz (b8 e iz.lowQ ?_ ?_)
 ·rw [e,Kd.E4 iz.dpos]
  exact(nz.ediv gp).mono ()
 ·rw [e,Kd.E3 iz.dpos]
  exact(dz.ediv gp).mono ()
theorem O2 (T:Tx K mg) (f:Class→Vbdeab.Q):Si (fun H x c=>j2 T H x (f c)):=fun H H' x c s h=>h.si s
def yj (T:Tx K mg):Sp:=fun vs H Q _=>∃(av:List Addr) (a b:Addr) (d:Dist) (v:Vbdeab.Q) (s:Bool),vs= [.ref a,.ref b,.int (Fr.nk s)]∧fb T av H a d∧j2 T H b v∧jf v∧∀(x:Addr) (H':Hp),j2 T H' x (Vbdeab.below s v d)→aC H H'→Q (.ref x) H'
theorem xB (T:Tx K mg):dO P w base T.mZ 4 (yj T):=by
 refine T.mZ.okA bh ?_
 rintro _ A _ s H _ Q E hr
 refine Pg fun av a b=>?_
 refine DR ?_
 rintro d v s rfl hD hb okv k
 refine⟨_,(ac (tX (i:=5) (own:= [("weight",3),("shape",4)]) rfl bh.nd rfl rfl (yp rfl rfl rfl rfl) (cF (bj T.fT (iS T) hr (ab (pv 0) ad))) (ci (N:= ["distribution","v","strict","weight","shape","chances","chance","parts","bottom","reached"]) (sc:=ag g9) (by decide+kernel)) (fun _ _ _ _ _=>(Bq (K':=K) (n:=2) rfl (eX (kZ 3 bh.nd) (eX (kZ 4 bh.nd) qI)) rfl rfl rfl)) (fun _ _ _ _ _=>dS) (fun _ _ _ _ _=>(Mq (ab (pv 3) (ab (eO (wp (zN (pv 4) T.jW (tP T) hr (ab (pv 1) (ab (pv 2) ad))) (zN (pv 4) T.jV (tO T) hr (ab (pv 1) (ab (pv 2) ad)))) T.eM (eW T) hr) ad)))))
   (ac (aZ 7 bh.nd (bj T.jY (nE T) hr (ab (j9 (own:= [("weight",3),("chance",6)]) rfl bh.nd (cF (pv 5)) (ci (N:= ["distribution","v","strict","weight","shape","chances","chance","parts","bottom","reached"]) (sc:=ag g9) (by decide+kernel)) (fun _ _ _ _ _=>(Bq (K':=K) (n:=2) rfl (eX (kZ 3 bh.nd) (eX (kZ 6 bh.nd) qI)) rfl rfl rfl)) (fun _ _ _ _ _=>dS) (fun _ _ _ _ _=>(xK (K':=K) (pv 6) (by rfl) rfl))) ad)))
   (ac (aZ 8 bh.nd (bj T.vg (xH T) hr (ab (pv 7) ad)))
   (ac (aZ 9 bh.nd am)
   (ac (eh cM rfl (cF (pv 5)) (Fe rfl (eX (kZ 3 bh.nd) (eX (kZ 6 bh.nd) qI))) (ae (ou (i:=9) bh.nd rfl (Or.inl rfl) (aB aJ (aB aJ (pv 3) (ao (pv 6) rfl)) (aB cD (pv 8) (ao (pv 6) rfl))) mw)))
   (ae (aj (bj T.iM (kG T) hr (ab (pv 9) (ab (aB fe (pv 7) (aI (ab (ao (pv 0) rfl) ad))) ad)))))))))),?_⟩
 refine lC (fun dx wl sl bl el as D=>?_) hD
 have dl:=D.ok.len2
 have hW:0<total d:=D.ok.tot1
 have tz:Sz 133 ((total d:Nat):Int):=eI (rV D.ok.tot2)
 have okt:∀c∈taken d,vw c.2:=fun c hc=>D.ok.cls c (kN hc).1
 have tl:=u9 d
 refine bJ _ rfl (h9 av a d rfl hD fun H1 L ts hL pa s1=>(df L rfl ⟨_,a5.of hL⟩ fun C hC=>jD (xs:=ts.map V.ref) (fun i H'=>i≤ts.length∧∃us:List Addr,H' C=some (.lst (us.map V.ref))∧d9 (fun H x c=>j2 T H x (c.part s v)) H' us ((taken d).take i)∧aC H1 H') (mU (bo _) ([]) af (d9.nil _ _) (aC.laid hC)) (fun i H' _ ⟨_,_,_,_,sm⟩=>a5.of (sm _ _ hL)) ?_ ?_))
 ·rintro i x H2 hx
  refine pQ fun hi us hC2 pu s2=>?_
  refine a4 ?_ (gH hx)
  rintro t ht rfl
  have hi':=(cg.mp ht).1
  obtain⟨c,hc⟩:∃c,(taken d)[i]?=some c:=⟨_,bH (by rw [←pa.1];exact hi')⟩
  refine a4 (fun z et hsh1=>?_) (pa.2 i t _ ht hc)
  have okc:=okt c (eR hc)
  have hsh:=hsh1.same s2
  have hb2:=(hb.same s1).same s2
  refine rA (fun pd0 pdz pe plow pnz pdz2=>?_) (qG okc okv s)
  have fin:∀(y:Addr) (H3:Hp),fI T H3 y (Fr.xJ c.2 v.num (v.den:Int) (Fr.nk s)) (Fr.vE c.2 (v.den:Int))→aC H2 H3→∃dy fs,H3 y=some (.ins T.aA.C dy fs)∧fs.lookup ("lowest":Str)=none∧∃(a':Addr) (n' d':Int),[V.ref y]= [.ref a']∧fI T H3 a' n' d'∧0<d'∧Sz 9000 d'∧∀(x':Addr) (H':Hp),j2 T H' x' (Vbdeab.mkQ n' d'.toNat)→aC H3 H'→(2≤sizeLine∧∀p,H' p=none→∃acc,(bT H' p (.tup [.int (c.1:Nat),.ref x'])) C=some (.lst acc)∧acc.length<sizeLine∧(i+1≤ts.length∧∃us:List Addr,(bT (bT H' p (.tup [.int (c.1:Nat),.ref x'])) C (.lst (acc++ [.ref p]))) C=some (.lst (us.map V.ref))∧d9 (fun H x c=>j2 T H x (c.part s v)) (bT (bT H' p (.tup [.int (c.1:Nat),.ref x'])) C (.lst (acc++ [.ref p]))) us ((taken d).take (i+1))∧aC H1 (bT (bT H' p (.tup [.int (c.1:Nat),.ref x'])) C (.lst (acc++ [.ref p]))))):=fun y H3 hy s3=>by
   obtain⟨dy,hy'⟩:=id hy
   refine bV dy _ hy' rfl (i5 y _ _ rfl hy pd0 (pdz.mono ()) fun x' H4 hx' s4=>⟨(),fun p hp=>?_⟩)
   rw [←pe] at hx'
   have sp:=aC.laid (o:= .tup [.int (c.1:Nat),.ref x']) hp
   have S:=(s3.trans s4).trans sp
   have hC5:=S _ _ hC2
   refine df _ hC5 ?_ (mU hi' (us++ [p]) ?_ ?_ fun q o e=>?_)
   ·rw [aD,pu.1,ii]
    show _<2 ^ 24
    omega
   ·rw [af,yb]
   ·rw [Ch.bA hc]
    exact d9.lst (O2 T _) ((pu.same (O2 T _) S).snoc (x:=x') af (hx'.same sp)) hC5
   ·rw [ak (aw e hC)]
    exact S _ _ (s2 _ _ e)
  refine bV t _ rfl (HU.of (s2 _ _ et)) (kQ rfl _ (eu _ rfl _ _ rfl rfl rfl ?_))
  obtain⟨cw,cc⟩:=c
  cases cc with
  | line p q=>
   refine d7 (fun dz ax ay h1 h2 h3=>?_) hsh
   refine⟨_,rfl,.inl (cP _ rfl z dz _ rfl h1 rfl (bJ _ rfl (fB _ rfl z b (j5 p q v _ rfl hsh okc hb2 okv fun y H3 hy s3=>?_))))⟩
   refine yw (fun dy fs e1 e2 rest=>?_) (fin y H3 hy s3)
   exact bY y dy fs rfl e1 e2 rest
  | comb p q n=>
   refine d7 (fun dz ax ay h1 h2 h3=>?_) hsh
   refine⟨_,rfl,.inr (cP _ rfl z dz _ rfl h1 rfl (bJ _ rfl (fB _ rfl z b (iK p q v n _ rfl hsh okc hb2 okv fun y H3 hy s3=>?_))))⟩
   refine yw (fun dy fs e1 e2 rest=>?_) (fin y H3 hy s3)
   exact bY y dy fs rfl e1 e2 rest
 rintro H2
 refine pQ fun hi us hC2 pu s2=>?_
 rw [aD,pa.1,jU] at pu
 have pz:∀c∈taken d,(0:Int)<(((c.2.part s v).den:Nat):Int)∧Sz 250 (((c.2.part s v).den:Nat):Int):=fun c hc=>by
  refine rA (fun _ _ _ plow _ pdz2=>?_) (qG (okt c hc) okv s)
  exact⟨gt plow,pdz2⟩
 refine pO _ rfl C rfl ⟨_,a5.of hC2⟩ fun B hB=>jD (xs:=us.map V.ref) (fun i H'=>i≤us.length∧H' B=some (.lst ((((taken d).take i).map fun c=>(((c.2.part s v).den:Nat):Int)).map V.int))∧aC H2 H') ⟨bo _,af,aC.laid hB⟩ (fun i H' _ h=>a5.of (h.2.2 _ _ hC2)) ?_ ?_
 ·rintro i x H3 hx
  refine gk fun hi hB3 s3=>?_
  refine a4 ?_ (gH hx)
  rintro t ht rfl
  have hi':=(cg.mp ht).1
  obtain⟨c,hc⟩:∃c,(taken d)[i]?=some c:=⟨_,bH (by rw [←pu.1];exact hi')⟩
  refine a4 (fun z et U=>?_) (pu.2 i t _ ht hc)
  obtain⟨dz,hq⟩:=U
  refine bV t _ rfl (HU.of (s3 _ _ et)) (kQ rfl _ (eu _ rfl _ _ rfl rfl rfl (aM _ rfl z _ dz _ _ rfl (s3 _ _ hq) T.aA.cl (T.aA.no _ ()) rfl (bJ _ hB3 (b8 (by rw [aD,aD,ii];show _<2 ^ 24;omega) hi' ?_ fun b o e=>?_)))))
  ·rw [af,Ch.bA hc,dB,xw]
   rfl
  ·rw [ak (aw e hB)]
   exact s3 b o e
 rintro H3
 refine gk fun hi3 hB3 s3=>?_
 rw [aD,pu.1,jU] at hB3
 refine cK B _ rfl (b8 (a5.of hB3) (by rw [aD];omega) (fun z hz=>?_) fun H4 pl ps hp4 PP s4 _=>?_)
 ·refine a4 ?_ (lV.mp hz)
  rintro c hc rfl
  exact pz c hc
 have S4:=s3.trans s4
 have pl1:ps.length≤64:=by rw [PP.len,aD];omega
 have bz0:=tW PP.sz ps.length
 rw [l9] at bz0
 have bz:Sz 16100 (fy ps):=bz0.mono ⋯
 have b0:=PP.pp
 refine cy _ rfl pl ps rfl (a5.of hp4) (fi ⋯ (fun z hz=>(PP.sz z hz).mono ()) ?_)
 generalize hbt:fy ps=bt at*
 have pu4:=pu.same (O2 T _) S4
 have hC4:=S4 _ _ hC2
 refine pO _ rfl C rfl ⟨_,a5.of hC4⟩ (eE (xs:=us.map V.ref) (fun i σ H'=>H'=H4∧i≤us.length∧∃v1 v2 v3:Option V,σ= [some (.ref a),some (.ref b),some (.int (Fr.nk s)),v1,v2,some (.ref C),v3,some (.ref pl),some (.int bt),some (.int (Fr.ij (fun c=>(c.part s v).num) (fun c=>(((c.part s v).den:Nat):Int)) bt ((taken d).take i)))]) ⟨rfl,(kQ (bo _) none (oE none none rfl))⟩ (fun i σ H' _ h=>by rw [h.1];exact a5.of hC4) ?_ ?_)
 ·rintro i x σ H5 hx
  refine NX ?_
  rintro rfl hi v1 v2 v3 rfl
  refine a4 ?_ (gH hx)
  rintro t ht rfl
  have hi':=(cg.mp ht).1
  obtain⟨c,hc⟩:∃c,(taken d)[i]?=some c:=⟨_,bH (by rw [←pu.1];exact hi')⟩
  refine a4 (fun z et U=>?_) (pu4.2 i t _ ht hc)
  obtain⟨dz,hq⟩:=U
  have hcm:=eR hc
  have cpos:=(kN hcm).2
  have wz:=Ht D.ok (kN hcm).1
  obtain⟨p0,pz1⟩:=pz c hcm
  refine rA (fun _ _ _ _ pnz _=>?_) (qG (okt c hcm) okv s)
  have n1:=yO (num:=fun c=>(c.part s v).num) (den:=fun c=>(((c.part s v).den:Nat):Int)) (b:=bt) hc cpos
  refine bV t _ rfl (HU.of et) (kQ rfl _ (cy _ rfl _ _ rfl rfl ?_))
  refine bJ _ rfl (i4 _ rfl _ rfl z _ dz _ _ rfl hq T.aA.cl (T.aA.no _ ()) rfl (bR _ _ rfl rfl (bE wz pnz) (i4 _ rfl _ rfl z _ dz _ _ rfl hq T.aA.cl (T.aA.no _ ()) rfl (bR _ _ rfl rfl (qd p0 (pz1.mono ())) (bR _ _ rfl rfl (bE (wz.mul pnz (k:=400)) (bz.ediv p0)) (bR _ _ rfl rfl rfl (kQ hi' _ (oE _ _ (by rw [n1];rfl)))))))))
 rintro σ H5
 refine NX ?_
 rintro rfl hi v1 v2 v3 rfl
 rw [aD,pu.1,jU,kE]
 have S5:=(s1.trans s2).trans S4
 refine bJ _ rfl (i4 _ rfl _ rfl a _ dx _ _ rfl (S5 _ _ D.inst) T.ai.cl (T.ai.no _ ()) rfl ⟨bC,(fun F1 hF1=>?_)⟩)
 have sf1:=aC.laid (o:= .lst [.int ((total d:Nat):Int)]) hF1
 refine j5 pl F1 _ _ rfl rfl (sf1 _ _ hp4) af (by rw [aD];show ps.length+1≤2 ^ 24;omega) fun F2 hF2=>?_
 have sf2:=aC.laid (o:= .lst (ps.map V.int++ [V.int ((total d:Nat):Int)])) hF2
 refine i5 F2 _ (ps++ [((total d:Nat):Int)]) rfl (a5.of (by rw [af,xw])) (by rw [bZ];show ps.length+1≤1000;omega) (fun z hz=>?_) fun x H6 hx s6=>?_
 ·rcases jT.mp hz with q | q
  ·exact⟨PP.pos z q,PP.sz z q⟩
  ·rw [gQ] at q
   rw [q]
   exact⟨⋯,tz.mono ()⟩
 have iz:=Fr.uC (f:=Class.part s v) (num:=fun c=>(c.part s v).num) (den:=fun c=>(((c.part s v).den:Nat):Int)) (k:=1) (b:=bt) () b0 D.ok.low (fun c hc=>by
  refine rA (fun _ _ _ plow _ _=>?_) (qG (D.ok.cls c hc) okv s)
  refine⟨?_,gt plow⟩
  rw [Int.one_mul]
  exact plow.iz) (fun c hc q=>by rw [←hbt];exact PP.dvd _ (lV.mpr ⟨c,by unfold taken;exact Dc.mpr ⟨hc,aE q⟩,rfl⟩)) hW
 have e1:fy (ps++ [((total d:Nat):Int)])=1*bt*((total d:Nat):Int):=by rw [iW,hbt,Int.one_mul]
 rw [e1,←iz.eq] at hx
 exact k x H6 hx (((S5.trans sf1).trans sf2).trans s6)
open Vbdeab (Class Dist)
def He (T:Tx K mg):Sp:=fun vs H Q _=>∃(av:List Addr) (a b:Addr) (d:Dist) (i u:Nat) (c:Nat×Class) (v:Vbdeab.Q) (s:Bool),vs= [.ref a,.int i,.int u,.ref b,.int (Fr.nk s)]∧fb T av H a d∧u<4294967296∧d[i]?=some c∧0<c.1∧Vbdeab.M*Fr.dF d i≤u*total d∧j2 T H b v∧jf v∧∀(H':Hp),aC H H'→Q (.bl (Fr.fx s v (total d) c.1 c.2 (Fr.dF d i) u)) H'
theorem tR (T:Tx K mg):dO P w base T.uR 5 (He T):=by
 refine T.uR.okA Ap ?_
 rintro _ A _ s H _ Q E hr
 refine Bf fun av a=>?_
 refine Jb ?_
 rintro b d i u c v s rfl hD hu hc hw0 hge
 refine gk fun hb okv k=>?_
 refine⟨_,(ac (aZ 5 Ap.nd (zN (pv 0) T.dZ (gC T) hr (ab (pv 1) (ab (pv 2) ad))))
   (ac (aT (aR rY (pv 4) am (aY _)) (ae (aj (zN (pv 5) T.eD (fv T) hr (ab (pv 3) ad)))) aG)
   (ae (aj (OT (zN (pv 3) T.eD (fv T) hr (ab (pv 5) ad))))))),?_⟩
 refine lC (fun dx wl sl bl el as D=>?_) hD
 obtain⟨v1,v2⟩:=cJ okv.1
 refine cP _ rfl a dx _ rfl D.inst rfl (bD _ rfl _ rfl (ju av a d i u c rfl hD hu hc hw0 hge fun z H1 hz s1=>?_))
 refine tp (fun n m hrt iz nz mz=>?_) hz
 obtain⟨dz,hrt'⟩:=id hrt
 have hb1:=hb.same s1
 obtain⟨db,hb'⟩:=id hb1
 have k1:=k H1 s1
 unfold Fr.fx Vbdeab.under at k1
 have c1:=iz.lt_iff okv.2.iz
 have c2:=iz.le_iff okv.2.iz
 cases s with
 | true=>
  rw [if_pos rfl] at k1
  refine eQ _ rfl rfl _ rfl (jC (cP _ rfl z dz _ rfl hrt' rfl (fB _ rfl z b (j5 n m _ _ rfl hrt hb1 (bE nz v2) (bE v1 mz) ?_))))
  have e:decide (n*(v.den:Int)<v.num*m)=(along c.1 c.2 (u*total d - Vbdeab.M*Fr.dF d i)).lt v:=by
   by_cases q:n*(v.den:Int)<v.num*m
   ·rw [aE q,c1.mpr q]
   ·rw [br q]
    cases e:(along c.1 c.2 (u*total d - Vbdeab.M*Fr.dF d i)).lt v with
    | false=>rfl
    | true=>exact absurd (c1.mp e) q
  rw [e]
  exact k1
 | false=>
  rw [if_neg ()] at k1
  refine eQ _ rfl rfl _ rfl ?_
  refine cP _ rfl b db _ rfl hb' rfl (fB _ rfl b z (j4 _ _ n m rfl hb1 hrt (bE v1 mz) (dt (bE nz v2) _ rfl ?_)))
  have e:(!decide (v.num*m<n*(v.den:Int)))=(along c.1 c.2 (u*total d - Vbdeab.M*Fr.dF d i)).le v:=by
   by_cases q:v.num*m<n*(v.den:Int)
   ·rw [aE q]
    cases e:(along c.1 c.2 (u*total d - Vbdeab.M*Fr.dF d i)).le v with
    | false=>rfl
    | true=>exact absurd (c2.mp e) ⋯
   ·rw [br q,c2.mpr ⋯]
    rfl
  rw [e]
  exact k1
open Vbdeab (Class Dist)
def wF (T:Tx K mg):Sp:=fun vs H Q _=>∃(av:List Addr) (a b:Addr) (d:Dist) (i:Nat) (c:Nat×Class) (v:Vbdeab.Q) (s:Bool),vs= [.ref a,.int i,.int (ceilDiv (Vbdeab.M*Fr.dF d i) (total d):Nat),.ref b,.int (Fr.nk s)]∧fb T av H a d∧d[i]?=some c∧ceilDiv (Vbdeab.M*Fr.dF d i) (total d)<ceilDiv (Vbdeab.M*Fr.dF d (i+1)) (total d)∧j2 T H b v∧jf v∧∀(H':Hp),aC H H'→Q (.int (Vbdeab.countGood (Fr.fx s v (total d) c.1 c.2 (Fr.dF d i)) c.2.rises (ceilDiv (Vbdeab.M*Fr.dF d i) (total d)) (ceilDiv (Vbdeab.M*Fr.dF d (i+1)) (total d)):Nat)) H'
theorem wf (T:Tx K mg):dO P w base T.lO 6 (wF T):=by
 refine T.lO.okA cn ?_
 rintro _ A _ s H _ Q E hr U
 obtain⟨av,a,b,d,i,c,v,s,rfl,hD,hc,hlt,hb,okv,k⟩:=U
 refine⟨_,(ac (aZ 5 cn.nd (ip (ao (pv 0) rfl) (pv 1)))
   (ac (aZ 6 cn.nd (pv 2))
   (ac (aZ 7 cn.nd (aB cb (pv 5) am))
   (ac (aZ 8 cn.nd (bj T.uR (tR T) hr (ab (pv 0) (ab (pv 1) (ab (pv 6) (ab (pv 3) (ab (pv 4) ad)))))))
   (ac (aT (aR rY (pv 8) (bj T.uR (tR T) hr (ab (pv 0) (ab (pv 1) (ab (pv 7) (ab (pv 3) (ab (pv 4) ad)))))) (aY _)) (ae (aj (xL (aS (pv 8)) (aB cb (pv 5) (pv 2)) am))) aG)
   (ac (lq cM (aR vD (aB cb (pv 7) (pv 6)) am (aY _)) (ac (aZ 9 cn.nd (aB cD (aB b7 (pv 6) (pv 7)) am))
   (ae (aT (aR rY (bj T.uR (tR T) hr (ab (pv 0) (ab (pv 1) (ab (pv 9) (ab (pv 3) (ab (pv 4) ad)))))) (pv 8) (aY _)) (ae (aZ 6 cn.nd (pv 9))) (ae (aZ 7 cn.nd (pv 9)))))))
   (ae (aj (xL (aS (pv 8)) (aB cb (pv 7) (pv 2)) (aB cb (pv 5) (pv 7))))))))))),?_⟩
 refine lC (fun dx wl sl bl el as D=>?_) hD
 have hi:=(cg.mp hc).1
 have hW:0<total d:=D.ok.tot1
 have okc:=D.ok.cls c (eR hc)
 have hend:ceilDiv (Vbdeab.M*Fr.dF d (i+1)) (total d)≤4294967296:=by
  have h1:=Fr.yH (W:=total d) hW (Nat.mul_le_mul_left Vbdeab.M (kC d (i+1)))
  rw [Fr.Kc hW] at h1
  exact h1
 have hw0:0<c.1:=by
  rcases EG c.1 with q | q
  ·rw [Fr.jz hc,q,lW] at hlt
   omega
  ·exact q
 have hge:∀u,ceilDiv (Vbdeab.M*Fr.dF d i) (total d)≤u→Vbdeab.M*Fr.dF d i≤u*total d:=fun u h=>(Fr.lX hW).mp h
 have en:=xp (d:=d) hi
 have mono:=Fr.LP okc.2 hw0 okv.2 s (total d) (Fr.dF d i) (ceilDiv (Vbdeab.M*Fr.dF d i) (total d)) (ceilDiv (Vbdeab.M*Fr.dF d (i+1)) (total d))
 have same:= @Hv.count_same _ _ _ _ mono hlt
 have turn:=fun m=> @Hv.count_turn _ _ _ _ m mono
 generalize ceilDiv (Vbdeab.M*Fr.dF d i) (total d)=lo at*
 generalize ceilDiv (Vbdeab.M*Fr.dF d (i+1)) (total d)=hi' at*
 have f64:hi' - lo<2 ^ 64:=by
  have:(4294967296:Nat)<2 ^ 64:=by decide
  omega
 have e1:((hi':Nat):Int) - 1=((hi' - 1:Nat):Int):=by omega
 refine aM _ rfl a _ dx _ _ rfl D.inst T.ai.cl (T.ai.no _ ()) rfl (bQ _ rfl el _ _ _ rfl rfl (a5.of D.e) (ql rfl en) ?_)
 refine eY _ rfl _ rfl _ _ rfl rfl ?_
 refine DQ _ rfl _ rfl _ rfl _ rfl _ rfl av a ⟨b,(ju d i lo c v s rfl hD ⋯ hc hw0 (hge lo (bq _)) (fi hb okv fun H1 s1=>?_))⟩
 refine bJ _ rfl (DQ _ rfl _ rfl _ rfl _ rfl _ rfl av a ⟨b,(ju d i (hi' - 1) c v s ?_ (hD.same s1) ⋯ hc hw0 (hge (hi' - 1) ⋯) (fi (hb.same s1) okv fun H2 s2=>?_))⟩)
 ·show [V.ref a,V.int i,V.int (((hi':Nat):Int) - 1),V.ref b,V.int (Fr.nk s)]++ []=_
  rw [e1]
  rfl
 have S2:=s1.trans s2
 refine dt rfl _ rfl (aX (fun he=>?_) (fun he=>?_))
 ·have he':Fr.fx s v (total d) c.1 c.2 (Fr.dF d i) lo=Fr.fx s v (total d) c.1 c.2 (Fr.dF d i) (hi' - 1):=V.bl.inj (bn he)
  have cs:=same f64 he'
  rw [cs] at k
  refine bD _ rfl _ rfl (aX (fun h1=>?_) (fun h1=>?_))
  ·rw [if_pos h1] at k
   refine eY _ rfl _ rfl _ _ rfl rfl ?_
   have k2:=k H2 S2
   rw [sI ⋯] at k2
   exact k2
  ·rw [if_neg h1] at k
   exact k H2 S2
 ·have he':¬Fr.fx s v (total d) c.1 c.2 (Fr.dF d i) lo=Fr.fx s v (total d) c.1 c.2 (Fr.dF d i) (hi' - 1):=fun q=>he (aE (cA V.bl q))
  have hlast:Fr.fx s v (total d) c.1 c.2 (Fr.dF d i) (hi' - 1)= !Fr.fx s v (total d) c.1 c.2 (Fr.dF d i) lo:=by cases e1:Fr.fx s v (total d) c.1 c.2 (Fr.dF d i) lo<;>cases e2:Fr.fx s v (total d) c.1 c.2 (Fr.dF d i) (hi' - 1)<;>first | rfl | (rw [e1,e2] at he';exact absurd rfl he')
  have hne:lo≠hi' - 1:=fun q=>he' (by rw [←q])
  refine⟨fun m σ H'=>∃(l h:Nat) (x:Option V),m=h - l∧σ= [some (.ref a),some (.int i),some (.int (lo:Nat)),some (.ref b),some (.int (Fr.nk s)),some (.int (hi':Nat)),some (.int (l:Nat)),some (.int (h:Nat)),some (.bl (Fr.fx s v (total d) c.1 c.2 (Fr.dF d i) lo)),x]∧lo≤l∧l<h∧h<hi'∧Fr.fx s v (total d) c.1 c.2 (Fr.dF d i) l=Fr.fx s v (total d) c.1 c.2 (Fr.dF d i) lo∧Fr.fx s v (total d) c.1 c.2 (Fr.dF d i) h=(!Fr.fx s v (total d) c.1 c.2 (Fr.dF d i) lo)∧aC H H',(j4 (hi' - 1 - lo) lo (hi' - 1) none rfl (by rw [←e1];rfl) (bq _) ⋯ (b8 ⋯ rfl hlast S2)),?_⟩
  rintro m σ H3
  refine d7 ?_
  rintro l h x rfl rfl
  refine rA fun l1 l2 l3 gl gh s3=>?_
  refine eY _ rfl _ rfl _ _ rfl rfl ⟨_,(eQ _ rfl rfl _ rfl (aX (fun ht=>⟨_,fun _ _ z=>z,?_⟩) (fun ht=>?_)))⟩
  ·have ht':1<h - l:=by have:=bn ht;omega
   have em:((l:Int)+(h:Int)) /2=(((l+h) /2:Nat):Int):=by omega
   refine eY _ rfl _ rfl _ _ rfl rfl (bR _ _ rfl rfl ⟨(),by decide+kernel⟩ ?_)
   refine DQ _ rfl _ rfl _ rfl _ rfl _ rfl av a ⟨b,(ju d i ((l+h) /2) c v s ?_ (hD.same s3) ⋯ hc hw0 (hge ((l+h) /2) ⋯) (fi (hb.same s3) okv fun H4 s4=>?_))⟩
   ·show [V.ref a,V.int i,V.int (((l:Int)+(h:Int)) /2),V.ref b,V.int (Fr.nk s)]++ []=_
    rw [em]
    rfl
   refine eQ _ rfl rfl _ rfl (aX (fun h2=>?_) (fun h2=>?_))
   ·have h2':Fr.fx s v (total d) c.1 c.2 (Fr.dF d i) ((l+h) /2)=Fr.fx s v (total d) c.1 c.2 (Fr.dF d i) lo:=V.bl.inj (bn h2)
    exact bD _ rfl (h - (l+h) /2) ⋯ (i5 ((l+h) /2) h _ rfl (by rw [←em];rfl) ⋯ ⋯ (b8 l3 h2' gh (s3.trans s4)))
   ·have h2':¬Fr.fx s v (total d) c.1 c.2 (Fr.dF d i) ((l+h) /2)=Fr.fx s v (total d) c.1 c.2 (Fr.dF d i) lo:=fun q=>h2 (aE (cA V.bl q))
    have h2'':Fr.fx s v (total d) c.1 c.2 (Fr.dF d i) ((l+h) /2)= !Fr.fx s v (total d) c.1 c.2 (Fr.dF d i) lo:=by cases e1:Fr.fx s v (total d) c.1 c.2 (Fr.dF d i) lo<;>cases e2:Fr.fx s v (total d) c.1 c.2 (Fr.dF d i) ((l+h) /2)<;>first | rfl | (rw [e1,e2] at h2';exact absurd rfl h2')
    exact bD _ rfl ((l+h) /2 - l) ⋯ (i5 l ((l+h) /2) _ rfl (by rw [←em];rfl) l1 ⋯ (b8 ⋯ gl h2'' (s3.trans s4)))
  ·have ht':¬(1:Int)<(h:Int) - (l:Int):=fun q=>ht (aE q)
   have e:h=l+1:=by omega
   subst e
   have ct:=turn l l1 l3 f64 gl gh
   rw [ct] at k
   refine bD _ rfl _ rfl (aX (fun h1=>?_) (fun h1=>?_))
   ·rw [if_pos h1] at k
    refine eY _ rfl _ rfl _ _ rfl rfl ?_
    have k2:=k H3 s3
    rw [sI ⋯] at k2
    exact k2
   ·rw [if_neg h1] at k
    refine eY _ rfl _ rfl _ _ rfl rfl ?_
    have k2:=k H3 s3
    rw [sI ⋯] at k2
    exact k2
open Vbdeab (Class Dist)
def A8 (T:Tx K mg):Sp:=fun vs H Q _=>∃(av:List Addr) (a b:Addr) (d:Dist) (v:Vbdeab.Q) (s:Bool),vs= [.ref a,.ref b,.int (Fr.nk s)]∧fb T av H a d∧j2 T H b v∧jf v∧∀(H':Hp),aC H H'→Q (.int (Vbdeab.hits s v d:Nat)) H'
theorem AM (T:Tx K mg):dO P w base T.rJ 7 (A8 T):=by
 refine T.rJ.okA d5 ?_
 rintro _ A _ s H _ Q E hr
 refine Pg fun av a b=>?_
 refine DR ?_
 rintro d v s rfl hD hb okv k
 refine⟨_,(ac (aZ 3 d5.nd am)
   (ac (aZ 4 d5.nd am)
   (ac (eh cM rfl (cu rfl T.dk (ab (a9 aW (by rfl) T.gx eA (ab (ao (pv 0) rfl) ad)) ad)) (kZ 5 d5.nd) (ac (aZ 6 d5.nd (ip (ao (pv 0) rfl) (pv 5)))
   (ac (aT (aR ll (pv 4) (pv 6) (aY _)) (ae (ou (i:=3) d5.nd rfl (Or.inl rfl) (bj T.lO (wf T) hr (ab (pv 0) (ab (pv 5) (ab (pv 4) (ab (pv 1) (ab (pv 2) ad)))))) mw)) aG)
   (ae (aZ 4 d5.nd (pv 6))))))
   (ae (aj (pv 3)))))),?_⟩
 refine lC (fun dx wl sl bl el as D=>?_) hD
 have hW:0<total d:=D.ok.tot1
 have hlen:(dJ (xo (d.map fun c=>c.1))).length=d.length:=by rw [bf,xq,aD]
 have dl:=D.ok.len2
 have hE:=D.e
 generalize hL:dJ (xo (d.map fun c=>c.1))=EL at*
 have b1: -(2 ^ 62)≤(EL.length:Int):=by rw [hlen];omega
 have b2:(EL.length:Int)<2 ^ 62:=by rw [hlen];omega
 refine aM _ rfl a _ dx _ _ rfl D.inst T.ai.cl (T.ai.no _ ()) rfl ⟨el,(eQ EL rfl (.inl (a5.of hE)) (EL.length:Int) rfl (fi b1 b2 (gY (n:=(EL.length:Int).toNat) (fun i σ H'=>i≤d.length∧∃(v1 v2:Option V) (f:Nat),σ= [some (.ref a),some (.ref b),some (.int (Fr.nk s)),some (.int (f:Nat)),some (.int (ceilDiv (Vbdeab.M*Fr.dF d i) (total d):Nat)),v1,v2]∧Vbdeab.hits s v d=f+Fr.BL s v d i∧aC H H') ⟨bo _,(h9 none none 0 ?_ (by rw [i7];exact Fr.Ic s v d) (aC.refl' H))⟩ ?_ ?_)))⟩
 ·rw [Fr.tF,Nat.mul_zero,Fr.D5 _ hW]
  rfl
 ·rintro i σ H1 hi U
  obtain⟨_,v1,v2,f,rfl,hf,s1⟩:=U
  rw [cV,hlen] at hi
  obtain⟨c,hc⟩:∃c,d[i]?=some c:=⟨_,bH hi⟩
  have ht:=Fr.Kn (strict:=s) (v:=v) (w:=c.1) (c:=c.2) hc
  have hm:ceilDiv (Vbdeab.M*Fr.dF d i) (total d)≤ceilDiv (Vbdeab.M*Fr.dF d (i+1)) (total d):=Fr.yH hW (Nat.mul_le_mul_left Vbdeab.M (Fr.HY (d:=d) ⋯))
  refine aM _ rfl a _ dx _ _ rfl (s1 _ _ D.inst) T.ai.cl (T.ai.no _ ()) rfl (bQ _ rfl el _ _ _ rfl rfl (a5.of (s1 _ _ D.e)) (ql (kt _) (xp hi)) ?_)
  refine bJ _ rfl (lA _ rfl _ _ rfl rfl _ rfl (aX (fun h1=>?_) (fun h1=>?_)))
  ·have h1':ceilDiv (Vbdeab.M*Fr.dF d i) (total d)<ceilDiv (Vbdeab.M*Fr.dF d (i+1)) (total d):=by have:=bn h1;omega
   refine bJ _ rfl (DQ _ rfl _ rfl _ rfl _ rfl _ rfl av a (ju b d i c v s ?_ (hD.same s1) hc h1' (hb.same s1) okv fun H2 s2=>?_))
   ·show [V.ref a,V.int (0+(i:Int)),V.int (ceilDiv (Vbdeab.M*Fr.dF d i) (total d):Nat),V.ref b,V.int (Fr.nk s)]++ []=_
    rw [kt]
    rfl
   refine bV _ _ rfl rfl ?_
   refine df _ rfl hi (h9 (some (.int (0+(i:Int)))) (some (.int (ceilDiv (Vbdeab.M*Fr.dF d (i+1)) (total d):Nat))) (f+Vbdeab.countGood (Fr.fx s v (total d) c.1 c.2 (Fr.dF d i)) c.2.rises (ceilDiv (Vbdeab.M*Fr.dF d i) (total d)) (ceilDiv (Vbdeab.M*Fr.dF d (i+1)) (total d))) ?_ ?_ (s1.trans s2))
   ·rw [pT]
    rfl
   ·rw [hf,ht,yA]
  ·have h1':¬((ceilDiv (Vbdeab.M*Fr.dF d i) (total d):Nat):Int)<((ceilDiv (Vbdeab.M*Fr.dF d (i+1)) (total d):Nat):Int):=fun q=>h1 (aE q)
   have e:ceilDiv (Vbdeab.M*Fr.dF d (i+1)) (total d)=ceilDiv (Vbdeab.M*Fr.dF d i) (total d):=by omega
   rw [e,Fr.F8,i7] at ht
   exact df _ rfl hi (h9 _ _ f rfl (by rw [hf,ht]) s1)
 ·rintro σ H1 U
  obtain⟨_,v1,v2,f,rfl,hf,s1⟩:=U
  rw [cV,hlen,Fr.LQ,lW] at hf
  rw [hf] at k
  exact⟨_,rfl,k H1 s1⟩
open Vbdeab (Class Dist)
def j7 (l:List Int):Prop:=∀x∈l,Sz 140 x
theorem qh {l:List Int} {i:Nat} (h:i<l.length):l[i]?=some (l.getD i 0):=by
 rw [e8,bH h]
 rfl
theorem j7.at {l:List Int} (h:j7 l) (i:Nat):Sz 140 (l.getD i 0):=by
 rw [e8]
 cases e:l[i]? with
 | none=>show(0:Int).natAbs<_;exact wU _
 | some x=>exact h x (eR e)
theorem cX {l:List Int} {i:Nat} {z:Int} {k:Int} (e:k=(i:Int)) (h:l[i]?=some z):Lk (l.map V.int) k=some (V.int z):=vy e (by rw [du,h];rfl)
theorem jf.int {z:Int} (h:z.natAbs≤Vbdeab.BIG):jf (Vbdeab.ofInt z):=⟨Kd.tN h,(Fr.Iz.ofInt z).lowQ⟩
theorem jf.zero:jf ⟨0,1⟩:=⟨(),(),()⟩
theorem jf.one:jf ⟨1,1⟩:=⟨(),(),()⟩
def DL (T:Tx K mg):Sp:=fun vs H Q _=>∃(a:Addr) (b:List Int) (j:Nat),vs= [.ref a,.int j]∧a5 K H a (b.map V.int)∧j7 b∧j+1<b.length∧∀(v:V) (H':Hp),OQ T H' v (Kd.aU b j)→aC H H'→Q v H'
theorem iG (T:Tx K mg):dO P w base T.jb 5 (DL T):=by
 refine T.jb.okA DF ?_
 rintro _ A _ s H _ Q E hr
 refine DR ?_
 rintro a b j rfl hs hz hj k
 refine⟨_,(ae (aj (bj T.cN (cr T) hr (ab (ip (pv 0) (pv 1)) (ab (ip (pv 0) (aB b7 (pv 1) am)) ad))))),?_⟩
 exact bJ _ rfl (bQ _ rfl a _ _ _ rfl rfl hs (cX rfl (qh (show j<b.length by omega))) (eY _ rfl _ rfl _ _ rfl rfl (j4 a _ _ _ rfl rfl hs (cX (i:=j+1) rfl (qh hj)) (bV _ _ rfl ((hz.at _).mono ()) k))))
def IK (T:Tx K mg):Sp:=fun vs H Q _=>∃(u:V) (x:Option Vbdeab.Q),vs= [u]∧OQ T H u x∧(∀q,x=some q→jf q)∧∀(r:V) (H':Hp),EI T H' r (Kd.tU x)→aC H H'→Q r H'
theorem wm (T:Tx K mg):dO P w base T.yC 6 (IK T):=by
 refine T.yC.okA IE ?_
 rintro _ A _ s H _ Q E hr
 refine tp ?_
 rintro u x rfl hu hx k
 refine⟨_,(ae (aj (bj T.mj (lZ T) hr (ab (pv 0) (ab (Ax T.bp (bb T) hr (ab am (ab am ad))) (ab am ad)))))),?_⟩
 refine⟨_,rfl,?_⟩
 intro z dz nz nd _
 refine dh nz nd (fun H2 e2 s2=>?_) (cK 0 1 rfl rfl)
 refine iK u (.ref z) x (some ⟨0,1⟩) 1 rfl (hu.same s2) ⟨z,(kQ rfl dz e2)⟩ hx (fun q hq=>by cases hq;exact jf.zero) fun r H3 o3 s3=>?_
 have e:Kd.nu x (some ⟨0,1⟩) 1=Kd.tU x:=by cases x<;>rfl
 rw [e] at o3
 exact k r H3 o3 (s2.trans s3)
def Bd (T:Tx K mg):Sp:=fun vs H Q _=>∃(x y:Int),vs= [.int x,.int y]∧∀(r:V) (H':Hp),EI T H' r (Kd.kO x y)→aC H H'→Q r H'
theorem rX (T:Tx K mg):dO P w base T.l6 6 (Bd T):=by
 refine T.l6.okA AW ?_
 rintro _ A _ s H _ Q E hr
 refine rB ?_
 rintro x y rfl k
 refine⟨_,(ac (aT (lr (ic (aV (aS (bj T.gT (fU T) hr (ab (pv 0) ad)))) (ic (aV (aS (bj T.gT (fU T) hr (ab (pv 1) ad)))) (ik (aR vD (pv 0) (pv 1) (aY _)))))) (ae (aj de)) aG)
   (ae (aj (bj T.mj (lZ T) hr (ab (Ax T.bp (bb T) hr (ab (pv 0) (ab am ad))) (ab (Ax T.bp (bb T) hr (ab am (ab am ad))) (ab (aB b7 (aB cb (pv 1) (pv 0)) am) ad))))))),?_⟩
 have nb:∀z:Int,z.natAbs≤Vbdeab.BIG↔(-1000000000000000000≤z∧z≤1000000000000000000):=fun z=>by rw [Kd.oj];omega
 have bad:¬(x≤y∧x.natAbs≤Vbdeab.BIG∧y.natAbs≤Vbdeab.BIG)→Q .non H:=fun q=>by
  have e:Kd.kO x y=none:=by unfold Kd.kO;rw [if_neg fun z=>q ⟨z.1,z.2.1,z.2.2.1⟩]
  rw [e] at k
  exact k .non H rfl (aC.refl' H)
 refine bd _ rfl x rfl _ rfl (aX (fun h1=>?_) (fun h1=>?_))
 ·exact jC (bad fun q=>oV h1 ((nb _).mp q.2.1))
 ·refine bd _ rfl y rfl _ rfl (aX (fun h2=>?_) (fun h2=>?_))
  ·exact jC (bad fun q=>oV h2 ((nb _).mp q.2.2))
  ·refine bJ _ rfl (lA _ rfl _ _ rfl rfl _ rfl (aX (fun h3=>?_) (fun h3=>?_)))
   ·have h3':y<x:=bn h3
    exact bad fun q=>by have:=q.1;omega
   ·have h3':¬y<x:=fun q=>h3 (aE q)
    have hx:=(nb x).mpr (oW h1)
    refine⟨_,rfl,?_⟩
    intro z dz nz nd _
    refine dh nz nd (fun H2 e2 s2=>?_) (cK x 1 rfl rfl)
    intro z3 dz3 nz3 nd3 _
    refine dh nz3 nd3 (fun H3 e3 s3=>?_) (cK 1 1 rfl rfl)
    refine eY _ rfl _ rfl _ _ rfl rfl (bV _ _ rfl rfl (iK (.ref z) (.ref z3) (some (Vbdeab.ofInt x)) (some ⟨1,1⟩) (y - x+1) rfl ⟨z,(kQ rfl dz (s3 _ _ e2))⟩ ⟨z3,(kQ rfl dz3 e3)⟩ (fun q hq=>by cases hq;exact jf.int hx) (fun q hq=>by cases hq;exact jf.one) fun r H4 o4 s4=>?_))
    have e:Kd.nu (some (Vbdeab.ofInt x)) (some ⟨1,1⟩) (y - x+1)=Kd.kO x y:=by
     unfold Kd.nu Kd.kO
     simp only
     by_cases c:y - x+1≤1000000000000000000
     ·rw [if_pos ⟨⋯,c⟩,if_pos (b8 ⋯ hx ((nb y).mpr (oW h2)) c)]
     ·rw [if_neg fun q=>c q.2,if_neg fun q=>c q.2.2.2]
    rw [e] at o4
    exact k r H4 o4 ((s2.trans s3).trans s4)
def zE (T:Tx K mg):Sp:=fun vs H Q _=>∃(av:List Addr) (wl:Addr) (first:Nat) (ws:List Nat),vs= [.int first,.ref wl]∧H wl=some (.lst (dJ ws))∧first≤100∧ws.length≤100∧wl ∉ av∧(∀b∈av,H b≠none)∧∀(v:V) (H':Hp),je T av H' v (Kd.xh (nats ws) (Kd.gv first ws.length))→aC H H'→Q v H'
theorem g7 (T:Tx K mg):dO P w base T.f7 7 (zE T):=by
 refine T.f7.okA kK ?_
 rintro _ A _ s H _ Q E hr
 refine MW ?_
 rintro av wl first ws rfl hw h1 h2 nw hav k
 refine⟨_,(ac (tX (i:=3) (own:= [("i",2)]) rfl kK.nd rfl rfl (yp rfl rfl rfl rfl) (cu rfl T.dk (ab (a9 aW (by rfl) T.gx eA (ab (pv 1) ad)) ad)) (ci (N:= ["first","weights","i","shapes"]) (sc:=ag lI) (by decide+kernel)) (fun _ _ _ _ _=>(kZ 2 kK.nd)) (fun _ _ _ _ _=>dS) (fun _ _ _ _ _=>(bj T.yC (wm T) hr (ab (Fd (T.aA.mk' T.bp) (bb T) (hr.mono ()) rfl T.aA.mgC T.bp.b .nil Ab (ab (aB b7 (pv 0) (pv 2)) (ab am ad))) ad))))
   (ae (aj (bj T.cI (cT T) hr (ab (pv 1) (ab (pv 3) ad)))))),?_⟩
 refine lA _ rfl wl _ rfl (.inl (a5.of hw)) _ rfl (fi ⋯ (by rw [bf];omega) fun L hL=>gA (n:=((dJ ws).length:Int).toNat) (fun i H'=>i≤ws.length∧∃acc,H' L=some (.lst acc)∧jq T H' acc (Kd.gv first i)∧aC H H') (mU (bo _) ([]) af ⟨rfl,fun i v o h _=>by cases i<;>cases h⟩ (aC.laid hL)) ?_ ?_)
 ·rintro i H1 hi
  refine pQ fun _ acc hA hO sm=>?_
  rw [cV,bf] at hi
  refine⟨rfl,(eY _ rfl _ rfl _ _ rfl rfl ?_)⟩
  intro z dz nz nd _
  refine dh nz nd (fun H2 e2 s2=>?_) (cK _ 1 rfl rfl)
  have ez:(first:Int)+(0+(i:Int))=((first+i:Nat):Int):=by omega
  rw [ez] at e2
  refine bR (.ref z) (some (Vbdeab.ofNat (first+i))) rfl ⟨z,(kQ rfl dz e2)⟩ (fun q hq=>by cases hq;exact jf.int (z:=((first+i:Nat):Int)) (by rw [Kd.oj];omega)) fun r H3 o3 s3=>?_
  have S:=s2.trans s3
  have hA3:=S _ _ hA
  refine df acc hA3 ?_ (mU hi _ af ?_ fun q o e=>?_)
  ·rw [hO.1]
   unfold Kd.gv
   rw [aD,ft]
   show i<2 ^ 24
   omega
  ·have e:Kd.gv first (i+1)=Kd.gv first i++ [some (point (Vbdeab.ofNat (first+i)))]:=by unfold Kd.gv;rw [iX]
   rw [e]
   exact((hO.si (aC.i S)).snoc o3).si (ib.lst hA3)
  ·rw [ak (aw e hL)]
   exact S _ _ (sm _ _ e)
 ·rintro H1
  refine pQ fun _ acc hA hO sm=>?_
  rw [cV,bf] at hO
  refine bD _ rfl _ rfl (ju av wl L (nats ws) acc _ rfl (sm _ _ hw) hA hO ?_ ?_ (b8 nw (eF hav hL) (fun q hq z=>?_) fun r H5 o5 s5=>k r H5 o5 (sm.trans s5)))
  ·unfold Kd.gv nats
   rw [aD,ft,aD]
  ·unfold nats
   rw [aD]
   omega
  ·cases z2:H q with
   | none=>exact hav q hq z2
   | some o=>rw [sm _ _ z2] at z;cases z
theorem yZ {p:Nat} (h:p≤100):∀i,Sz (7*i+1) ((p ^ i:Nat):Int)
 | 0=>by rw [Nat.pow_zero];decide
 | i+1=>by
  rw [mV,b9]
  exact(yZ h i).mul (eI (oe h ()):Sz 7 _) ⋯
def IL (T:Tx K mg):Sp:=fun vs H Q _=>∃(p e:Nat),vs= [.int p,.int e]∧p≤100∧e≤100∧Q (.int ((p ^ e:Nat):Int)) H
theorem mC (T:Tx K mg):dO P w base T.rL 1 (IL T):=by
 refine T.rL.okA qR ?_
 rintro _ A _ s H _ Q E hr
 refine tp ?_
 rintro p e rfl hp he k
 refine⟨_,(ac (aZ 2 qR.nd am)
   (ac (eh cM rfl (cu rfl T.dk (ab (pv 1) ad)) (kZ 3 qR.nd) (ae (aZ 2 qR.nd (aB aJ (pv 2) (pv 0)))))
   (ae (aj (pv 2))))),?_⟩
 refine sY _ rfl e rfl ⋯ ⋯ (gY (n:=(e:Int).toNat) (fun i σ H'=>H'=H∧∃v:Option V,σ= [some (.int p),some (.int e),some (.int ((p ^ i:Nat):Int)),v]) ⟨rfl,none,rfl⟩ ?_ ?_)
 ·rintro i σ H1 hi
  refine NY ?_
  rintro rfl v rfl
  exact bJ _ rfl (eu _ rfl _ _ rfl rfl (bE ((yZ hp i).mono (n:=1000) ⋯) (eI (oe hp ()):Sz 7 _)) (kQ rfl _ (by rw [mV,b9];rfl)))
 ·rintro σ H1
  refine NY ?_
  rintro rfl v rfl
  rw [cV]
  exact⟨_,rfl,k⟩
theorem l7:∀n i,Vbdeab.choose n i≤2 ^ n
 | 0,0=>by decide
 | 0,i+1=>by rw [Cb.choose_zero_succ];exact bo _
 | n+1,0=>by rw [Cb.choose_zero];exact Nat.one_le_two_pow
 | n+1,i+1=>by
  rw [Cb.choose_succ,mV]
  have h1:=l7 n i
  have h2:=l7 n (i+1)
  omega
def K1 (T:Tx K mg):Sp:=fun vs H Q _=>∃(n m:Nat),vs= [.int n,.int m]∧n≤100∧m≤100∧Q (.int ((Vbdeab.choose n m:Nat):Int)) H
theorem yV (T:Tx K mg):dO P w base T.Dj 1 (K1 T):=by
 refine T.Dj.okA u7 ?_
 rintro _ A _ s H _ Q E hr
 refine tp ?_
 rintro n m rfl hn hm k
 refine⟨_,(ac (aZ 2 u7.nd am)
   (ac (eh cM rfl (cu rfl T.dk (ab (pv 1) ad)) (kZ 3 u7.nd) (ae (aZ 2 u7.nd (aB cD (aB aJ (pv 2) (aB cb (pv 0) (pv 3))) (aB b7 (pv 3) am)))))
   (ae (aj (pv 2))))),?_⟩
 refine sY _ rfl m rfl ⋯ ⋯ (gY (n:=(m:Int).toNat) (fun i σ H'=>H'=H∧∃v:Option V,σ= [some (.int n),some (.int m),some (.int ((Vbdeab.choose n i:Nat):Int)),v]) ⟨rfl,none,by rw [Cb.choose_zero];rfl⟩ ?_ ?_)
 ·rintro i σ H1 hi
  refine NY ?_
  rintro rfl v rfl
  have cz:Sz 101 ((Vbdeab.choose n i:Nat):Int):=eI (oe (l7 n i) (C1 () ⋯))
  have nz:Sz 10 ((n:Int) - (0+(i:Int))):=by show(_:Int).natAbs<1024;omega
  exact bJ _ rfl (eY _ rfl _ rfl _ _ rfl rfl (bR _ _ rfl rfl (bE cz nz) (cy _ rfl _ _ rfl rfl (bR _ _ rfl rfl (qd ⋯ (show Sz 9000 _ from(show Sz 10 (0+(i:Int)+1) by show(_:Int).natAbs<1024;omega).mono ())) (kQ rfl _ (by show [some (V.int n),some (V.int m),some (V.int (((Vbdeab.choose n i:Nat):Int)*((n:Int) - (0+(i:Int))) /(0+(i:Int)+1))),some (V.int (0+(i:Int)))]=_;rw [kt,Kd.HZ]))))))
 ·rintro σ H1
  refine NY ?_
  rintro rfl v rfl
  rw [cV]
  exact⟨_,rfl,k⟩
def uv (T:Tx K mg):Sp:=fun vs H Q _=>∃(av:List Addr) (a:Addr) (p q:Int),vs= [.ref a]∧a5 K H a ([p,q].map V.int)∧j7 [p,q]∧(∀b∈av,H b≠none)∧∀(v:V) (H':Hp),je T av H' v (checked (build 0 [p,q] []))→aC H H'→Q v H'
theorem B0 (T:Tx K mg):dO P w base T.jo 7 (uv T):=by
 refine T.jo.okA Cy ?_
 rintro _ A _ s H _ Q E hr U
 obtain⟨av,a,p,q,rfl,hs,hz,hav,k⟩:=U
 refine⟨_,(ae (aj (bj T.cI (cT T) hr (ab (aI (ab am ad)) (ab (aI (ab (bj T.yC (wm T) hr (ab (bj T.cN (cr T) hr (ab (ip (pv 0) am) (ab (ip (pv 0) am) ad))) ad)) ad)) ad))))),?_⟩
 rw [Kd.PD] at k
 refine⟨bC,fun W hW=>?_⟩
 have sW:=aC.laid (o:= .lst [.int 1]) hW
 refine bQ _ rfl a _ _ _ rfl rfl (sW.seq hs) (cX (i:=0) rfl rfl) (fj _ rfl a _ _ _ rfl rfl (sW.seq hs) (cX (i:=1) rfl rfl) p q rfl ((hz q (by simp)).mono ()) fun u H1 o1 s1=>?_)
 refine bR u _ rfl o1 (fun q hq=>nv hq) fun r H2 o2 s2=>?_
 refine⟨bC,fun L hL=>?_⟩
 have sL:=aC.laid (o:= .lst [r]) hL
 have S:=(sW.trans s1).trans s2
 refine ju av W L ([1]) ([r]) ([Kd.tU (Vbdeab.fraction p q)]) rfl (sL _ _ (s2 _ _ (s1 _ _ af))) af ⟨rfl,fun i v o h1 h2=>?_⟩ rfl () (b8 (eF hav hW) (eF hav (S.free hL)) (fun x hx z=>?_) fun v H5 o5 s5=>k v H5 o5 ((S.trans sL).trans s5))
 ·cases i with
  | zero=>cases h1;cases h2;exact o2.same sL
  | succ i=>cases i<;>cases h1
 ·cases z2:H x with
  | none=>exact hav x hx z2
  | some o=>rw [sL _ _ (S _ _ z2)] at z;cases z
def vS (T:Tx K mg):Sp:=fun vs H Q _=>∃(av:List Addr) (a:Addr) (p q:Int),vs= [.ref a]∧a5 K H a ([p,q].map V.int)∧(∀b∈av,H b≠none)∧∀(v:V) (H':Hp),je T av H' v (checked (build 1 [p,q] []))→aC H H'→Q v H'
theorem Dv (T:Tx K mg):dO P w base T.kW 7 (vS T):=by
 refine T.kW.okA DE ?_
 rintro _ A _ s H _ Q E hr
 refine oF ?_
 rintro av a p q rfl hs hav k
 refine⟨_,(ae (aj (bj T.cI (cT T) hr (ab (aI (ab am ad)) (ab (aI (ab (bj T.l6 (rX T) hr (ab (ip (pv 0) am) (ab (ip (pv 0) am) ad))) ad)) ad))))),?_⟩
 rw [Kd.PF] at k
 refine⟨bC,fun W hW=>?_⟩
 have sW:=aC.laid (o:= .lst [.int 1]) hW
 refine bQ _ rfl a _ _ _ rfl rfl (sW.seq hs) (cX (i:=0) rfl rfl) (bQ _ rfl a _ _ _ rfl rfl (sW.seq hs) (cX (i:=1) rfl rfl) (cK p q rfl fun r H2 o2 s2=>?_))
 refine⟨bC,fun L hL=>?_⟩
 have sL:=aC.laid (o:= .lst [r]) hL
 have S:=sW.trans s2
 refine ju av W L ([1]) ([r]) ([Kd.kO p q]) rfl (sL _ _ (s2 _ _ af)) af ⟨rfl,fun i v o h1 h2=>?_⟩ rfl () (b8 (eF hav hW) (eF hav (S.free hL)) (fun x hx z=>?_) fun v H5 o5 s5=>k v H5 o5 ((S.trans sL).trans s5))
 ·cases i with
  | zero=>cases h1;cases h2;exact o2.same sL
  | succ i=>cases i<;>cases h1
 ·cases z2:H x with
  | none=>exact hav x hx z2
  | some o=>rw [sL _ _ (S _ _ z2)] at z;cases z
def CK (T:Tx K mg):Sp:=fun vs H Q _=>∃n p q:Int,vs= [.int n,.int p,.int q]∧Q (.bl (decide ((0≤n∧n≤20)∧(1≤q∧q≤100)∧(0≤p∧p≤q)))) H
theorem tQ (T:Tx K mg):dO P w base T.oh 2 (CK T):=by
 refine T.oh.okA Ct ?_
 rintro _ A _ s H _ Q E hr
 refine tq ?_
 rintro n p q rfl k
 refine⟨_,(ae (aj (Mm (bj T.bW (a8 T) hr (ab (pv 0) (ab am (ab (fk T.FQ) ad)))) (Mm (bj T.bW (a8 T) hr (ab (pv 2) (ab am (ab (fk T.yD) ad)))) (OU (bj T.bW (a8 T) hr (ab (pv 1) (ab am (ab (pv 2) ad))))))))),?_⟩
 refine fB _ rfl n 0 (bD 20 rfl _ rfl (aX (fun h1=>?_) (fun h1=>?_)))
 ·have h1':=bn h1
  refine fB _ rfl q 1 (bD 100 rfl _ rfl (aX (fun h2=>?_) (fun h2=>?_)))
  ·have h2':=bn h2
   refine bJ _ rfl (fB _ rfl p 0 (bJ q rfl ?_))
   have e:decide ((0≤n∧n≤20)∧(1≤q∧q≤100)∧(0≤p∧p≤q))=decide (0≤p∧p≤q):=by
    by_cases c:0≤p∧p≤q
    ·rw [aE c,aE ⟨h1',h2',c⟩]
    ·rw [br c,br fun z=>c z.2.2]
   rw [e] at k
   exact k
  ·rw [br fun z=>h2 (aE z.2.1)] at k
   exact k
 ·rw [br fun z=>h1 (aE z.1)] at k
  exact k
open Vbdeab (Class Dist)
theorem xk {av:List Addr} {H H':Hp} (h:∀b∈av,H b≠none) (s:aC H H'):∀b∈av,H' b≠none:=fun b hb z=>by
 cases e:H b with
 | none=>exact h b hb e
 | some o=>rw [s _ _ e] at z;cases z
theorem MR (n p q:Nat):(Kd.IY n p q).length=n+1:=by unfold Kd.IY;rw [aD,ft]
def uy (T:Tx K mg):Sp:=fun vs H Q _=>∃(av:List Addr) (a:Addr) (n p q:Int),vs= [.ref a]∧a5 K H a ([n,p,q].map V.int)∧(∀b∈av,H b≠none)∧∀(v:V) (H':Hp),je T av H' v (checked (build 6 [n,p,q] []))→aC H H'→Q v H'
theorem B2 (T:Tx K mg):dO P w base T.jp 8 (uy T):=by
 refine T.jp.okA fz ?_
 rintro _ A _ s H _ Q E hr U
 obtain⟨av,a,n,p,q,rfl,hs,hav,k⟩:=U
 refine⟨_,(ac (aZ 1 fz.nd (ip (pv 0) am))
   (ac (aZ 2 fz.nd (ip (pv 0) am))
   (ac (aZ 3 fz.nd (ip (pv 0) am))
   (ac (aT (aV (aS (bj T.oh (tQ T) hr (ab (pv 1) (ab (pv 2) (ab (pv 3) ad)))))) (ae (aj de)) aG)
   (ae (aj (bj T.f7 (g7 T) hr (ab am (ab (j9 (own:= [("i",4)]) rfl fz.nd (cu rfl T.dk (ab (aB b7 (pv 1) am) ad)) (ci (N:= ["numbers","n","p","q","i"]) (sc:=ag oy) (by decide+kernel)) (fun _ _ _ _ _=>(kZ 4 fz.nd)) (fun _ _ _ _ _=>dS) (fun _ _ _ _ _=>(aB aJ (aB aJ (bj T.Dj (yV T) hr (ab (pv 1) (ab (pv 4) ad))) (bj T.rL (mC T) hr (ab (pv 2) (ab (pv 4) ad)))) (bj T.rL (mC T) hr (ab (aB cb (pv 3) (pv 2)) (ab (aB cb (pv 1) (pv 4)) ad)))))) ad))))))))),?_⟩
 rw [Kd.PM] at k
 refine bQ _ rfl a _ _ _ rfl rfl hs (cX (i:=0) rfl rfl) ?_
 refine bQ _ rfl a _ _ _ rfl rfl hs (cX (i:=1) rfl rfl) ?_
 refine bQ _ rfl a _ _ _ rfl rfl hs (cX (i:=2) rfl rfl) ?_
 refine i3 _ rfl _ rfl _ rfl n p q rfl (bJ _ rfl (aX (fun h1=>?_) (fun h1=>?_)))
 ·rw [if_neg (oV h1)] at k
  exact k .non H rfl (aC.refl' H)
 ·have hc:=oW h1
  rw [if_pos hc] at k
  obtain⟨N,rfl⟩:∃N:Nat,n=(N:Int):=⟨n.toNat,⋯⟩
  obtain⟨p',rfl⟩:∃N:Nat,p=(N:Int):=⟨p.toNat,⋯⟩
  obtain⟨q',rfl⟩:∃N:Nat,q=(N:Int):=⟨q.toNat,⋯⟩
  simp only [cV] at k
  have eN:(N:Int)+1=((N+1:Nat):Int):=by omega
  refine lA _ rfl _ _ rfl rfl _ rfl (fi ⋯ ⋯ fun L hL=>gA (n:=((N:Int)+1).toNat) (fun i H'=>i≤N+1∧H' L=some (.lst (dJ ((List.range i).map fun j=>Vbdeab.choose N j*p' ^ j*(q' - p') ^ (N - j))))∧aC H H') ⟨bo _,af,aC.laid hL⟩ ?_ ?_)
  ·rintro i H1 hi
   refine gk fun _ hL1 sm=>?_
   have hi':i<N+1:=by omega
   have cz:Sz 101 ((Vbdeab.choose N i:Nat):Int):=eI (oe (l7 N i) (C1 () ⋯))
   have pz:=(yZ (show p'≤100 by omega) i).mono (n:=1000) ⋯
   have qz:=(yZ (show q' - p'≤100 by omega) (N - i)).mono (n:=1000) ⋯
   refine⟨rfl,(eY _ rfl _ rfl N i (by rw [kt];rfl) ⋯ (dt ⋯ _ rfl (eu _ rfl p' i (by rw [kt];rfl) ⋯ ⋯ (bR _ _ rfl rfl (bE cz pz) (eY _ rfl _ rfl _ _ rfl rfl (eY _ rfl _ rfl _ _ rfl rfl (jt (q' - p') (N - i) ?_ ⋯ ⋯ _ _ rfl rfl (dt (bE (cz.mul pz (k:=1101)) qz) _ hL1 (b8 (by rw [bf,aD,ft];show i<2 ^ 24;omega) hi' ?_ fun b o e=>?_)))))))))⟩
   ·show [V.int ((q':Int) - (p':Int)),V.int ((N:Int) - (0+(i:Int)))]++ []=_
    rw [kt,←sI ⋯,←sI ⋯]
    rfl
   ·rw [af,iX,←gz,b9,b9]
   ·rw [ak (aw e hL)]
    exact sm b o e
  ·rintro H1
   refine gk fun _ hL1 sm=>?_
   rw [eN,cV] at hL1
   have hl:=MR N p' q'
   refine j4 av L 0 (Kd.IY N p' q') rfl hL1 ⋯ ⋯ (fi (eF hav hL) (xk hav sm) fun v H5 o5 s5=>?_)
   rw [hl] at o5
   exact k v H5 o5 (sm.trans s5)
theorem MS (n p q:Nat):(Kd.FJ n p q).length=n+1:=by unfold Kd.FJ;rw [bZ,aD,ft];rfl
def vR (T:Tx K mg):Sp:=fun vs H Q _=>∃(av:List Addr) (a:Addr) (n p q:Int),vs= [.ref a]∧a5 K H a ([n,p,q].map V.int)∧(∀b∈av,H b≠none)∧∀(v:V) (H':Hp),je T av H' v (checked (build 7 [n,p,q] []))→aC H H'→Q v H'
theorem Du (T:Tx K mg):dO P w base T.kS 8 (vR T):=by
 refine T.kS.okA fY ?_
 rintro _ A _ s H _ Q E hr U
 obtain⟨av,a,n,p,q,rfl,hs,hav,k⟩:=U
 refine⟨_,(ac (aZ 1 fY.nd (ip (pv 0) am))
   (ac (aZ 2 fY.nd (ip (pv 0) am))
   (ac (aZ 3 fY.nd (ip (pv 0) am))
   (ac (aT (aV (aS (bj T.oh (tQ T) hr (ab (pv 1) (ab (pv 2) (ab (pv 3) ad)))))) (ae (aj de)) aG)
   (ac (tX (i:=5) (own:= [("i",4)]) rfl fY.nd rfl rfl (yp rfl rfl rfl rfl) (cu rfl T.dk (ab (pv 1) ad)) (ci (N:= ["numbers","m","p","q","i","weights"]) (sc:=ag qL) (by decide+kernel)) (fun _ _ _ _ _=>(kZ 4 fY.nd)) (fun _ _ _ _ _=>dS) (fun _ _ _ _ _=>(aB aJ (aB aJ (pv 2) (bj T.rL (mC T) hr (ab (aB cb (pv 3) (pv 2)) (ab (pv 4) ad)))) (bj T.rL (mC T) hr (ab (pv 3) (ab (aB cb (aB cb (pv 1) am) (pv 4)) ad))))))
   (ae (aj (bj T.f7 (g7 T) hr (ab am (ab (aB fe (pv 5) (aI (ab (bj T.rL (mC T) hr (ab (aB cb (pv 3) (pv 2)) (ab (pv 1) ad))) ad))) ad)))))))))),?_⟩
 rw [Kd.PN] at k
 refine bQ _ rfl a _ _ _ rfl rfl hs (cX (i:=0) rfl rfl) ?_
 refine bQ _ rfl a _ _ _ rfl rfl hs (cX (i:=1) rfl rfl) ?_
 refine bQ _ rfl a _ _ _ rfl rfl hs (cX (i:=2) rfl rfl) ?_
 refine i3 _ rfl _ rfl _ rfl n p q rfl (bJ _ rfl (aX (fun h1=>?_) (fun h1=>?_)))
 ·rw [if_neg (oV h1)] at k
  exact k .non H rfl (aC.refl' H)
 ·have hc:=oW h1
  rw [if_pos hc] at k
  obtain⟨N,rfl⟩:∃N:Nat,n=(N:Int):=⟨n.toNat,⋯⟩
  obtain⟨p',rfl⟩:∃N:Nat,p=(N:Int):=⟨p.toNat,⋯⟩
  obtain⟨q',rfl⟩:∃N:Nat,q=(N:Int):=⟨q.toNat,⋯⟩
  simp only [cV] at k
  have p7:Sz 7 (p':Int):=eI (oe (show p'≤100 by omega) ())
  refine sY _ rfl _ rfl ⋯ ⋯ fun L hL=>gA (n:=(N:Int).toNat) (fun i H'=>i≤N∧H' L=some (.lst (dJ ((List.range i).map fun j=>p'*(q' - p') ^ j*q' ^ (N - 1 - j))))∧aC H H') ⟨bo _,af,aC.laid hL⟩ ?_ ?_
  ·rintro i H1 hi
   refine gk fun _ hL1 sm=>?_
   have hi':i<N:=by omega
   have pz:=(yZ (show q' - p'≤100 by omega) i).mono (n:=1000) ⋯
   have qz:=(yZ (show q'≤100 by omega) (N - 1 - i)).mono (n:=1000) ⋯
   refine dt rfl _ rfl (eY _ rfl _ rfl _ _ rfl rfl (eu _ rfl (q' - p') i ?_ ⋯ ⋯ (bR _ _ rfl rfl (bE p7 pz) (eY _ rfl _ rfl _ _ rfl rfl (cy _ rfl _ _ rfl rfl (jt q' (N - 1 - i) ?_ ⋯ ⋯ _ _ rfl rfl (dt (bE (p7.mul pz (k:=1101)) qz) _ hL1 (b8 (by rw [bf,aD,ft];show i<2 ^ 24;omega) hi' ?_ fun b o e=>?_))))))))
   ·show [V.int ((q':Int) - (p':Int)),V.int (0+(i:Int))]++ []=_
    rw [kt,←sI ⋯]
    rfl
   ·show [V.int (q':Int),V.int ((N:Int) - 1 - (0+(i:Int)))]++ []=_
    rw [kt,show(N:Int) - 1 - (i:Int)=((N - 1 - i:Nat):Int) by omega]
    rfl
   ·rw [af,iX,←gz,b9,b9]
   ·rw [ak (aw e hL)]
    exact sm b o e
  ·rintro H1
   refine gk fun _ hL1 sm=>?_
   rw [cV] at hL1
   have hl:=MS N p' q'
   refine bJ _ rfl (eY _ rfl _ rfl _ _ rfl rfl (cy _ rfl (q' - p') N ?_ ⋯ (fi ⋯ bC fun M1 hM1=>?_)))
   ·show [V.int ((q':Int) - (p':Int)),V.int (N:Int)]++ []=_
    rw [←sI ⋯]
    rfl
   have s1:=aC.laid (o:= .lst [V.int (((q' - p') ^ N:Nat):Int)]) hM1
   refine j5 L M1 _ _ rfl rfl (s1 _ _ hL1) af (by rw [bf,aD,ft];show N+1≤2 ^ 24;omega) fun M2 hM2=>?_
   rw [gz] at*
   have s2:=aC.laid (o:= .lst (dJ (Kd.FJ N p' q'))) hM2
   refine j4 av M2 0 (Kd.FJ N p' q') rfl af ⋯ ⋯ (fi (eF hav (sm.free (s1.free hM2))) (xk hav ((sm.trans s1).trans s2)) fun v H5 o5 s5=>?_)
   rw [hl] at o5
   exact k v H5 o5 (((sm.trans s1).trans s2).trans s5)
theorem MT (t k n:Nat):(Kd.IZ t k n).length=n+1:=by unfold Kd.IZ;rw [aD,ft]
def mT (T:Tx K mg):Sp:=fun vs H Q _=>∃(av:List Addr) (a:Addr) (n p q:Int),vs= [.ref a]∧a5 K H a ([n,p,q].map V.int)∧(∀b∈av,H b≠none)∧∀(v:V) (H':Hp),je T av H' v (checked (build 8 [n,p,q] []))→aC H H'→Q v H'
theorem wk (T:Tx K mg):dO P w base T.eT 8 (mT T):=by
 refine T.eT.okA dE ?_
 rintro _ A _ s H _ Q E hr U
 obtain⟨av,a,n,p,q,rfl,hs,hav,k⟩:=U
 refine⟨_,(ac (aZ 1 dE.nd (ip (pv 0) am))
   (ac (aZ 2 dE.nd (ip (pv 0) am))
   (ac (aZ 3 dE.nd (ip (pv 0) am))
   (ac (aT (lr (ic (aV (aS (bj T.bW (a8 T) hr (ab (pv 1) (ab am (ab (fk T.DS) ad)))))) (ic (aV (aS (bj T.bW (a8 T) hr (ab (pv 2) (ab am (ab (pv 1) ad)))))) (ik (aV (aS (bj T.bW (a8 T) hr (ab (pv 3) (ab am (ab (pv 1) ad)))))))))) (ae (aj de)) aG)
   (ae (aj (bj T.f7 (g7 T) hr (ab am (ab (j9 (own:= [("i",4)]) rfl dE.nd (cu rfl T.dk (ab (aB b7 (pv 3) am) ad)) (ci (N:= ["numbers","a","b","n","i"]) (sc:=ag jI) (by decide+kernel)) (fun _ _ _ _ _=>(kZ 4 dE.nd)) (fun _ _ _ _ _=>dS) (fun _ _ _ _ _=>(aB aJ (bj T.Dj (yV T) hr (ab (pv 2) (ab (pv 4) ad))) (bj T.Dj (yV T) hr (ab (aB cb (pv 1) (pv 2)) (ab (aB cb (pv 3) (pv 4)) ad)))))) ad))))))))),?_⟩
 rw [Kd.PQ] at k
 have bad:¬((0≤n∧n≤60)∧(0≤p∧p≤n)∧(0≤q∧q≤n))→Q .non H:=fun z=>by
  rw [if_neg z] at k
  exact k .non H rfl (aC.refl' H)
 refine bQ _ rfl a _ _ _ rfl rfl hs (cX (i:=0) rfl rfl) ?_
 refine bQ _ rfl a _ _ _ rfl rfl hs (cX (i:=1) rfl rfl) ?_
 refine bQ _ rfl a _ _ _ rfl rfl hs (cX (i:=2) rfl rfl) ?_
 refine fB _ rfl n 0 (bD 60 rfl _ rfl (aX (fun h1=>jC (bad fun z=>oV h1 z.1)) (fun h1=>?_)))
 refine bJ _ rfl (fB _ rfl p 0 (bD n rfl _ rfl (aX (fun h2=>jC (bad fun z=>oV h2 z.2.1)) (fun h2=>?_))))
 refine bJ _ rfl (fB _ rfl q 0 (bD n rfl _ rfl (aX (fun h3=>bad fun z=>oV h3 z.2.2) (fun h3=>?_))))
 have hc:(0≤n∧n≤60)∧(0≤p∧p≤n)∧(0≤q∧q≤n):=⟨oW h1,oW h2,oW h3⟩
 rw [if_pos hc] at k
 obtain⟨N,rfl⟩:∃N:Nat,n=(N:Int):=⟨n.toNat,⋯⟩
 obtain⟨p',rfl⟩:∃N:Nat,p=(N:Int):=⟨p.toNat,⋯⟩
 obtain⟨q',rfl⟩:∃N:Nat,q=(N:Int):=⟨q.toNat,⋯⟩
 simp only [cV] at k
 have eN:(q':Int)+1=((q'+1:Nat):Int):=by omega
 refine lA _ rfl _ _ rfl rfl _ rfl (fi ⋯ ⋯ fun L hL=>gA (n:=((q':Int)+1).toNat) (fun i H'=>i≤q'+1∧H' L=some (.lst (dJ ((List.range i).map fun j=>Vbdeab.choose p' j*Vbdeab.choose (N - p') (q' - j))))∧aC H H') ⟨bo _,af,aC.laid hL⟩ ?_ ?_)
 ·rintro i H1 hi
  refine gk fun _ hL1 sm=>?_
  have hi':i<q'+1:=by omega
  have cz:Sz 101 ((Vbdeab.choose p' i:Nat):Int):=eI (oe (l7 p' i) (C1 () ⋯))
  have cz2:Sz 101 ((Vbdeab.choose (N - p') (q' - i):Nat):Int):=eI (oe (l7 (N - p') (q' - i)) (C1 () ⋯))
  refine dt rfl _ rfl (eu _ rfl p' i (by rw [kt];rfl) ⋯ ⋯ (eY _ rfl _ rfl _ _ rfl rfl (eY _ rfl _ rfl _ _ rfl rfl (jt (N - p') (q' - i) ?_ ⋯ ⋯ _ _ rfl rfl (dt (bE cz cz2) _ hL1 (b8 (by rw [bf,aD,ft];show i<2 ^ 24;omega) hi' ?_ fun b o e=>?_))))))
  ·show [V.int ((N:Int) - (p':Int)),V.int ((q':Int) - (0+(i:Int)))]++ []=_
   rw [kt,←sI ⋯,←sI ⋯]
   rfl
  ·rw [af,iX,←gz,b9]
  ·rw [ak (aw e hL)]
   exact sm b o e
 ·rintro H1
  refine gk fun _ hL1 sm=>?_
  rw [eN,cV] at hL1
  have hl:=MT N p' q'
  refine j4 av L 0 (Kd.IZ N p' q') rfl hL1 ⋯ ⋯ (fi (eF hav hL) (xk hav sm) fun v H5 o5 s5=>?_)
  rw [hl] at o5
  exact k v H5 o5 (sm.trans s5)
def GI (l:List Nat) (s i t k:Nat):Nat:=(Vbdeab.spread (l.take i) s).getD k 0+if i≤k∧k<i+t then l.getD i 0 else 0
def GL (l:List Nat) (s i t:Nat):List Nat:=(List.range (l.length+s - 1)).map (GI l s i t)
theorem pX (l:List Nat) (s i t:Nat):(GL l s i t).length=l.length+s - 1:=by unfold GL;rw [aD,ft]
theorem Bx {l:List Nat} {s i t k:Nat} (h:k<l.length+s - 1):(GL l s i t)[k]?=some (GI l s i t k):=by unfold GL;rw [du,HH h];rfl
theorem Lo (l:List Nat) (s:Nat):GL l s 0 0=List.replicate (l.length+s - 1) 0:=by
 refine List.ext_getElem (by rw [pX,J2]) fun k h1 h2=>?_
 have z:=Bx (l:=l) (s:=s) (i:=0) (t:=0) (k:=k) (by rw [pX] at h1;exact h1)
 rw [bH h1] at z
 rw [bG z,List.getElem_replicate]
 unfold GI
 rw [List.take_zero,Kd.CS,if_neg ⋯]
theorem Om {l:List Nat} {s i:Nat} (hi:i<l.length):GL l s i s=GL l s (i+1) 0:=by
 unfold GL
 refine oa fun k _=>?_
 unfold GI
 rw [Kd.Hh l s i k hi,if_neg (show ¬(i+1≤k∧k<i+1+0) by omega),lW]
theorem M6 {l:List Nat} {s i t:Nat} (hi:i<l.length) (ht:t<s):(GL l s i t).set (i+t) (GI l s i t (i+t)+l.getD i 0)=GL l s i (t+1):=by
 refine List.ext_getElem (by rw [sJ,pX,pX]) fun k h1 h2=>?_
 rw [sJ,pX] at h1
 have z:=Bx (l:=l) (s:=s) (i:=i) (t:=t) (k:=k) h1
 have z2:=Bx (l:=l) (s:=s) (i:=i) (t:=t+1) (k:=k) h1
 rw [bH h2] at z2
 rw [bG z2,List.getElem_set]
 by_cases q:i+t=k
 ·subst q
  rw [if_pos rfl]
  unfold GI
  rw [if_neg ⋯,if_pos ⋯,lW]
 ·rw [if_neg q]
  rw [bH (by rw [pX];exact h1)] at z
  rw [bG z]
  unfold GI
  by_cases c:i≤k∧k<i+t
  ·rw [if_pos c,if_pos ⋯]
  ·rw [if_neg c,if_neg ⋯]
theorem Ol {l:List Nat} {s:Nat} (hl:0<l.length):GL l (s+1) l.length 0=Vbdeab.spread l (s+1):=by
 refine Kd.Dt (by rw [pX,Cb.spread_len hl];omega) fun k hk=>?_
 rw [pX] at hk
 rw [e8,Bx hk]
 show GI l (s+1) l.length 0 k=_
 unfold GI
 rw [jU,if_neg ⋯,lW]
def rl (T:Tx K mg):Sp:=fun vs H Q _=>∃(a:Addr) (l:List Nat) (s:Nat),vs= [.ref a,.int (s+1:Nat)]∧a5 K H a (dJ l)∧0<l.length∧l.length≤1000∧s≤100∧∀(p:Addr) (H':Hp),H' p=some (.lst (dJ (Vbdeab.spread l (s+1))))→aC H H'→H p=none→Q (.ref p) H'
theorem qE (T:Tx K mg):dO P w base T.iD 1 (rl T):=by
 refine T.iD.okA er ?_
 rintro _ A _ s H _ Q E hr
 refine FK ?_
 rintro a l s rfl hs hl0 hl hs1 k
 refine⟨_,(ac (aZ 2 er.nd (aB Mh (aI (ab am ad)) (aB cb (aB b7 (a9 aW (by rfl) T.gx eA (ab (pv 0) ad)) (pv 1)) am)))
   (ac (eh cM rfl (cu rfl T.dk (ab (a9 aW (by rfl) T.gx eA (ab (pv 0) ad)) ad)) (kZ 3 er.nd) (ae (eh cM rfl (cu rfl T.dk (ab (pv 1) ad)) (kZ 4 er.nd) (ae (NH (pv 2) (aB b7 (pv 3) (pv 4)) LM (ip (pv 0) (pv 3)) mw iJ)))))
   (ae (aj (pv 2))))),?_⟩
 refine⟨bC,fun Z hZ=>?_⟩
 have sZ:=aC.laid (o:= .lst [V.int 0]) hZ
 have eL:(((dJ l).length:Nat):Int)+((s+1:Nat):Int) - 1=((l.length+s:Nat):Int):=by rw [bf];omega
 refine cy _ rfl a _ rfl (.inl (sZ.seq hs)) (cy _ rfl _ _ rfl rfl (bV _ _ rfl rfl (bY Z _ _ rfl rfl af (b8 ?_ ?_ ?_ fun R hR=>?_))))
 ·rw [eL];omega
 ·rw [eL];omega
 ·rw [eL,cV]
  show 1*(l.length+s)≤2 ^ 24
  omega
 have erep:(List.replicate ((((dJ l).length:Nat):Int)+((s+1:Nat):Int) - 1).toNat [V.int 0]).flatten=dJ (GL l (s+1) 0 0):=by
  rw [eL,cV,Lo,show l.length+(s+1) - 1=l.length+s by omega]
  generalize l.length+s=m
  induction m with
  | zero=>rfl
  | succ m ih=>rw [Dd,HG,ih,Dd];rfl
 rw [erep] at*
 have sR:=sZ.trans (aC.laid (o:= .lst (dJ (GL l (s+1) 0 0))) hR)
 have nR:H R=none:=sZ.free hR
 refine lA _ rfl a _ rfl (.inl (sR.seq hs)) _ rfl (fi ⋯ (by rw [bf];omega) (gY (n:=(((dJ l).length:Nat):Int).toNat) (fun i σ H'=>i≤l.length∧∃v1 v2:Option V,σ= [some (.ref a),some (.int (s+1:Nat)),some (.ref R),v1,v2]∧H' R=some (.lst (dJ (GL l (s+1) i 0)))∧aC H H') ⟨bo _,(bV none none rfl af sR)⟩ ?_ ?_))
 ·rintro i σ H1 hi
  refine Li ?_
  rintro _ v1 v2 rfl hR1 s1
  rw [cV,bf] at hi
  refine sY _ rfl _ rfl ⋯ ⋯ (gY (n:=((s+1:Nat):Int).toNat) (fun t σ H'=>t≤s+1∧∃v2:Option V,σ= [some (.ref a),some (.int (s+1:Nat)),some (.ref R),some (.int (0+(i:Int))),v2]∧H' R=some (.lst (dJ (GL l (s+1) i t)))∧aC H H') (mU (bo _) _ rfl hR1 s1) ?_ ?_)
  ·rintro t σ H2 ht
   refine pQ ?_
   rintro _ v2 rfl hR2 s2
   rw [cV] at ht
   have hk:i+t<l.length+(s+1) - 1:=by omega
   have gl:=bH hi
   have gd:l.getD i 0=l[i]:=by rw [e8,gl];rfl
   refine bJ _ rfl (eY _ rfl _ rfl _ _ rfl rfl (iK R _ _ (i+t) _ rfl rfl (a5.of hR2) ⋯ (EY (Bx hk)) (bJ _ rfl (fj _ rfl a _ _ _ rfl rfl (s2.seq hs) (vy (j:=i) (kt _) (EY gl)) _ _ rfl rfl (j4 R _ _ (i+t) rfl rfl hR2 ?_ (mU ⋯ _ rfl ?_ fun b o e=>?_))))))
   ·unfold M5
    rw [if_pos ⋯,if_pos (by rw [bf,pX];omega)]
    congr 1
    omega
   ·rw [af,←M6 hi ⋯,gd]
    unfold dJ nats
    rw [yy,yy]
    rfl
   ·rw [ak (aw e nR)]
    exact s2 b o e
  ·rintro σ H2
   refine pQ ?_
   rintro _ v2 rfl hR2 s2
   rw [cV,Om hi] at hR2
   exact⟨hi,(bV _ _ rfl hR2 s2)⟩
 ·rintro σ H1
  refine Li ?_
  rintro _ v1 v2 rfl hR1 s1
  rw [cV,bf,Ol hl0] at hR1
  exact⟨_,rfl,k R H1 hR1 s1 nR⟩
def Ez (T:Tx K mg):Sp:=fun vs H Q _=>∃(av:List Addr) (a:Addr) (n q:Int),vs= [.ref a]∧a5 K H a ([n,q].map V.int)∧(∀b∈av,H b≠none)∧∀(v:V) (H':Hp),je T av H' v (checked (build 9 [n,q] []))→aC H H'→Q v H'
theorem KG (T:Tx K mg):dO P w base T.zT 8 (Ez T):=by
 refine T.zT.okA ma ?_
 rintro _ A _ s H _ Q E hr
 refine oF ?_
 rintro av a n q rfl hs hav k
 refine⟨_,(ac (aZ 1 ma.nd (ip (pv 0) am))
   (ac (aZ 2 ma.nd (ip (pv 0) am))
   (ac (aT (lr (ic (aV (aS (bj T.bW (a8 T) hr (ab (pv 1) (ab am (ab (fk T.HM) ad)))))) (ik (aV (aS (bj T.bW (a8 T) hr (ab (pv 2) (ab am (ab (fk T.FO) ad))))))))) (ae (aj de)) aG)
   (ac (aZ 3 ma.nd (aI (ab am ad)))
   (ac (eh cM rfl (cu rfl T.dk (ab (pv 1) ad)) (kZ 4 ma.nd) (ae (aZ 3 ma.nd (bj T.iD (qE T) hr (ab (pv 3) (ab (pv 2) ad))))))
   (ae (aj (bj T.f7 (g7 T) hr (ab (pv 1) (ab (pv 3) ad)))))))))),?_⟩
 rw [Kd.PR] at k
 have bad:¬((0≤n∧n≤6)∧(1≤q∧q≤10))→Q .non H:=fun z=>by
  rw [if_neg z] at k
  exact k .non H rfl (aC.refl' H)
 refine bQ _ rfl a _ _ _ rfl rfl hs (cX (i:=0) rfl rfl) ?_
 refine bQ _ rfl a _ _ _ rfl rfl hs (cX (i:=1) rfl rfl) ?_
 refine fB _ rfl n 0 (bD 6 rfl _ rfl (aX (fun h1=>jC (bad fun z=>oV h1 z.1)) (fun h1=>?_)))
 refine fB _ rfl q 1 (bD 10 rfl _ rfl (aX (fun h2=>bad fun z=>oV h2 z.2) (fun h2=>?_)))
 have hc:(0≤n∧n≤6)∧(1≤q∧q≤10):=⟨oW h1,oW h2⟩
 rw [if_pos hc] at k
 obtain⟨N,rfl⟩:∃N:Nat,n=(N:Int):=⟨n.toNat,⋯⟩
 obtain⟨m,rfl⟩:∃m:Nat,q=((m+1:Nat):Int):=⟨q.toNat - 1,⋯⟩
 simp only [cV] at k
 refine⟨bC,fun Z hZ=>?_⟩
 have sZ:=aC.laid (o:= .lst [V.int 1]) hZ
 have tlen:∀i,(Vbdeab.throws (m+1) i).length=i*m+1:=fun i=>Cb.throws_len m i
 refine sY _ rfl _ rfl ⋯ ⋯ (gY (n:=(N:Int).toNat) (fun i σ H'=>i≤N∧∃(v1:Option V) (L:Addr),σ= [some (.ref a),some (.int N),some (.int (m+1:Nat)),some (.ref L),v1]∧H' L=some (.lst (dJ (Vbdeab.throws (m+1) i)))∧H L=none∧aC H H') ⟨bo _,(bR none Z rfl (by rw [af,Cb.throws_zero];rfl) hZ sZ)⟩ ?_ ?_)
 ·rintro i σ H1 hi U
  obtain⟨_,v1,L,rfl,hL1,nL,s1⟩:=U
  rw [cV] at hi
  have hb:i*m≤6*9:=Nat.mul_le_mul ⋯ ⋯
  refine bJ _ rfl (cP _ rfl L _ m rfl (a5.of hL1) (by rw [tlen];omega) (fi (by rw [tlen];omega) ⋯ fun L2 H2 hL2 s2 n2=>?_))
  exact⟨hi,(bR _ L2 rfl (by rw [hL2,Cb.throws_succ]) (s1.free n2) (s1.trans s2))⟩
 ·rintro σ H1 U
  obtain⟨_,v1,L,rfl,hL1,nL,s1⟩:=U
  rw [cV] at hL1
  have hb:N*m≤6*9:=Nat.mul_le_mul ⋯ ⋯
  refine pP _ rfl _ rfl av L N _ rfl hL1 ⋯ (by rw [tlen];omega) (eF hav nL) ⟨xk hav s1,(fun v H5 o5 s5=>k v H5 o5 (s1.trans s5))⟩
open Vbdeab (Class Dist)
theorem kD {b:List Int} {j:Nat}:∀q,Kd.aU b j=some q→jf q:=fun q h=>nv h
theorem KA (f:Nat→Option Class) (i:Nat):(List.range (i+1)).map f=(List.range i).map f++ [f i]:=iX f i
theorem qU {T:Tx K mg} {H1 H4:Hp} {L:Addr} {acc:List V} {f:Nat→Option Class} {i:Nat} {r:V} (hA:H1 L=some (.lst acc)) (hO:jq T H1 acc ((List.range i).map f)) (hi:i≤8000) (ho:EI T H4 r (f i)) (s4:aC H1 H4):
  H4 L=some (.lst acc)∧acc.length<sizeLine∧jq T (bT H4 L (.lst (acc++ [r]))) (acc++ [r]) ((List.range (i+1)).map f):=by
 have hA4:=s4 _ _ hA
 refine⟨hA4,?_,?_⟩
 ·rw [hO.1,aD,ft]
  show i<2 ^ 24
  omega
 ·rw [KA]
  exact((hO.si (aC.i s4)).snoc ho).si (ib.lst hA4)
theorem jq.nil (T:Tx K mg) (H:Hp):jq T H [] []:=⟨rfl,fun i v o h _=>by cases i<;>cases h⟩
def yc (T:Tx K mg) (per beyond:Nat) (f:List Int→Nat→Option Class):Sp:=fun vs H Q _=>∃(a:Addr) (b:List Int) (n:Nat),vs= [.int n,.ref a]∧a5 K H a (b.map V.int)∧j7 b∧b.length=per*n+beyond∧n≤8000∧∀(p:Addr) (H':Hp) (ss:List V),H' p=some (.lst ss)→jq T H' ss ((List.range n).map (f b))→aC H H'→H p=none→Q (.ref p) H'
def Ar (T:Tx K mg):Sp:=yc T 2 0 (fun b i=>Kd.tU (Kd.aU b (2*i)))
theorem GG (T:Tx K mg):dO P w base T.pV 7 (Ar T):=by
 refine T.pV.okA uj ?_
 rintro _ A _ s H _ Q E hr
 refine FK ?_
 rintro a b n rfl hs hz hl hn k
 refine⟨_,(ae (aj (j9 (own:= [("i",2)]) rfl uj.nd (cu rfl T.dk (ab (pv 0) ad)) (ci (N:= ["many","numbers","i"]) (sc:=ag wr) (by decide+kernel)) (fun _ _ _ _ _=>(kZ 2 uj.nd)) (fun _ _ _ _ _=>dS) (fun _ _ _ _ _=>(bj T.yC (wm T) hr (ab (bj T.jb (iG T) hr (ab (pv 1) (ab (aB aJ am (pv 2)) ad))) ad)))))),?_⟩
 refine sY _ rfl _ rfl ⋯ ⋯ fun L hL=>gA (n:=(n:Int).toNat) (fun i H'=>∃acc,H' L=some (.lst acc)∧jq T H' acc ((List.range i).map fun i=>Kd.tU (Kd.aU b (2*i)))∧aC H H') (df ([]) af (jq.nil _ _) (aC.laid hL)) ?_ ?_
 ·rintro i H1 hi
  refine lB fun acc hA hO sm=>?_
  rw [cV] at hi
  have ei:(2:Int)*(0+(i:Int))=((2*i:Nat):Int):=by omega
  refine dt rfl _ rfl (eu _ rfl _ _ rfl rfl (bE (show Sz 2 2 by decide) (show Sz 20 (0+(i:Int)) by show(_:Int).natAbs<_;omega)) (i5 a b (2*i) ?_ (sm.seq hs) hz ⋯ fun v H2 o2 s2=>?_))
  ·show [V.ref a,V.int (2*(0+(i:Int)))]++ []=_
   rw [ei]
   rfl
  refine bR v _ rfl o2 kD fun r H3 o3 s3=>?_
  refine gk (fun e1 e2 e3=>?_) (qU hA hO ⋯ o3 (s2.trans s3))
  exact bJ acc e1 (mU e2 _ af e3 fun q o e=>by rw [ak (aw e hL)];exact s3 _ _ (s2 _ _ (sm _ _ e)))
 ·rintro H1
  refine lB fun acc hA hO sm=>?_
  rw [cV] at hO
  exact k L H1 acc hA hO sm hL
def n0 (T:Tx K mg):Sp:=yc T 2 2 (fun b i=>Kd.j8 (Kd.aU b (2*i)) (Kd.aU b (2*i+2)))
theorem xE (T:Tx K mg):dO P w base T.fF 6 (n0 T):=by
 refine T.fF.okA jO ?_
 rintro _ A _ s H _ Q E hr
 refine FK ?_
 rintro a b n rfl hs hz hl hn k
 refine⟨_,(ae (aj (j9 (own:= [("i",2)]) rfl jO.nd (cu rfl T.dk (ab (pv 0) ad)) (ci (N:= ["many","numbers","i"]) (sc:=ag kI) (by decide+kernel)) (fun _ _ _ _ _=>(kZ 2 jO.nd)) (fun _ _ _ _ _=>dS) (fun _ _ _ _ _=>(bj T.pU (qC T) hr (ab (bj T.jb (iG T) hr (ab (pv 1) (ab (aB aJ am (pv 2)) ad))) (ab (bj T.jb (iG T) hr (ab (pv 1) (ab (aB b7 (aB aJ am (pv 2)) am) ad))) ad))))))),?_⟩
 refine sY _ rfl _ rfl ⋯ ⋯ fun L hL=>gA (n:=(n:Int).toNat) (fun i H'=>∃acc,H' L=some (.lst acc)∧jq T H' acc ((List.range i).map fun i=>Kd.j8 (Kd.aU b (2*i)) (Kd.aU b (2*i+2)))∧aC H H') (df ([]) af (jq.nil _ _) (aC.laid hL)) ?_ ?_
 ·rintro i H1 hi
  refine lB fun acc hA hO sm=>?_
  rw [cV] at hi
  have ei:(2:Int)*(0+(i:Int))=((2*i:Nat):Int):=by omega
  have iz:Sz 20 (0+(i:Int)):=by show(_:Int).natAbs<_;omega
  refine dt rfl _ rfl (eu _ rfl _ _ rfl rfl (bE (show Sz 2 2 by decide) iz) (i5 a b (2*i) ?_ (sm.seq hs) hz ⋯ fun v H2 o2 s2=>?_))
  ·show [V.ref a,V.int (2*(0+(i:Int)))]++ []=_
   rw [ei]
   rfl
  refine bD _ rfl _ rfl (jt _ _ rfl rfl (bE (show Sz 2 2 by decide) iz) _ _ rfl rfl (i5 a b (2*i+2) ?_ (s2.seq (sm.seq hs)) hz ⋯ fun v2 H3 o3 s3=>?_))
  ·show [V.ref a,V.int (2*(0+(i:Int))+2)]++ []=_
   rw [ei]
   rfl
  refine j5 v v2 _ _ rfl (o2.same s3) o3 kD kD fun r H4 o4 s4=>?_
  refine gk (fun e1 e2 e3=>?_) (qU (f:=fun i=>Kd.j8 (Kd.aU b (2*i)) (Kd.aU b (2*i+2))) hA hO ⋯ o4 ((s2.trans s3).trans s4))
  exact bJ acc e1 (mU e2 _ af e3 fun q o e=>by rw [ak (aw e hL)];exact s4 _ _ (s3 _ _ (s2 _ _ (sm _ _ e))))
 ·rintro H1
  refine lB fun acc hA hO sm=>?_
  rw [cV] at hO
  exact k L H1 acc hA hO sm hL
def pK (T:Tx K mg):Sp:=yc T 2 0 (fun b i=>Kd.kO (b.getD (2*i) 0) (b.getD (2*i+1) 0))
theorem yW (T:Tx K mg):dO P w base T.ga 7 (pK T):=by
 refine T.ga.okA kM ?_
 rintro _ A _ s H _ Q E hr
 refine FK ?_
 rintro a b n rfl hs hz hl hn k
 refine⟨_,(ae (aj (j9 (own:= [("i",2)]) rfl kM.nd (cu rfl T.dk (ab (pv 0) ad)) (ci (N:= ["many","numbers","i"]) (sc:=ag lK) (by decide+kernel)) (fun _ _ _ _ _=>(kZ 2 kM.nd)) (fun _ _ _ _ _=>dS) (fun _ _ _ _ _=>(bj T.l6 (rX T) hr (ab (GM (xt (K':=K) rfl) (pv 1) (aB aJ am (pv 2)) (fun _ _=>rfl)) (ab (GM (xt (K':=K) rfl) (pv 1) (aB b7 (aB aJ am (pv 2)) am) (fun _ _=>rfl)) ad))))))),?_⟩
 refine sY _ rfl _ rfl ⋯ ⋯ fun L hL=>gA (n:=(n:Int).toNat) (fun i H'=>∃acc,H' L=some (.lst acc)∧jq T H' acc ((List.range i).map fun i=>Kd.kO (b.getD (2*i) 0) (b.getD (2*i+1) 0))∧aC H H') (df ([]) af (jq.nil _ _) (aC.laid hL)) ?_ ?_
 ·rintro i H1 hi
  refine lB fun acc hA hO sm=>?_
  rw [cV] at hi
  have iz:Sz 20 (0+(i:Int)):=by show(_:Int).natAbs<_;omega
  refine dt rfl _ rfl (eu _ rfl _ _ rfl rfl (bE (show Sz 2 2 by decide) iz) (j4 a _ _ _ rfl rfl (sm.seq hs) (cX (i:=2*i) ⋯ (qh ⋯)) (bD _ rfl _ rfl (jt _ _ rfl rfl (bE (show Sz 2 2 by decide) iz) _ _ rfl rfl (j4 a _ _ _ rfl rfl (sm.seq hs) (cX (i:=2*i+1) ⋯ (qh ⋯)) (cK _ _ rfl fun r H4 o4 s4=>?_))))))
  refine gk (fun e1 e2 e3=>?_) (qU (f:=fun i=>Kd.kO (b.getD (2*i) 0) (b.getD (2*i+1) 0)) hA hO ⋯ o4 s4)
  exact bJ acc e1 (mU e2 _ af e3 fun q o e=>by rw [ak (aw e hL)];exact s4 _ _ (sm _ _ e))
 ·rintro H1
  refine lB fun acc hA hO sm=>?_
  rw [cV] at hO
  exact k L H1 acc hA hO sm hL
def Bc (T:Tx K mg):Sp:=fun vs H Q _=>∃(a:Addr) (b:List Int),vs= [.ref a]∧a5 K H a (b.map V.int)∧j7 b∧b.length=6∧∀(r:V) (H':Hp),EI T H' r (Kd.rp b 0)→aC H H'→Q r H'
theorem AQ (T:Tx K mg):dO P w base T.rO 6 (Bc T):=by
 refine T.rO.okA lL ?_
 rintro _ A _ s H _ Q E hr
 refine io ?_
 rintro a b rfl hs hz hl k
 refine⟨_,(ac (aZ 1 lL.nd (bj T.jb (iG T) hr (ab (pv 0) (ab am ad))))
   (ac (aZ 2 lL.nd (bj T.jb (iG T) hr (ab (pv 0) (ab am ad))))
   (ac (aT (lr (OY (aR rY (ip (pv 0) am) am (aY _)) (NI (aR rY (ip (pv 0) am) am (aY _))))) (ae (aj (bj T.pU (qC T) hr (ab (pv 1) (ab (pv 2) ad))))) aG)
   (ac (aT (aR rY (ip (pv 0) am) am (aY _)) (ae (aj (bj T.mj (lZ T) hr (ab (pv 1) (ab (pv 2) (ab (ip (pv 0) am) ad)))))) aG)
   (ae (aj de)))))),?_⟩
 refine bJ _ rfl (i5 a b 1 rfl hs hz ⋯ fun v1 H1 o1 s1=>?_)
 refine bJ _ rfl (i5 a b 3 rfl (s1.seq hs) hz ⋯ fun v2 H2 o2 s2=>?_)
 have S:=s1.trans s2
 have hs2:=S.seq hs
 have ek:Kd.rp b 0=if b.getD 0 0=0∧b.getD 5 0=0 then Kd.j8 (Kd.aU b 1) (Kd.aU b 3) else if b.getD 0 0=1 then Kd.nu (Kd.aU b 1) (Kd.aU b 3) (b.getD 5 0) else none:=rfl
 rw [ek] at k
 have second:¬(b.getD 0 0=0∧b.getD 5 0=0)→∀D:FV,D.rt=Q→D.nx=(fun _ H'=>Q .non H')→(if b.getD 0 0=1 then Kd.nu (Kd.aU b 1) (Kd.aU b 3) (b.getD 5 0) else none)=(if b.getD 0 0=0∧b.getD 5 0=0 then Kd.j8 (Kd.aU b 1) (Kd.aU b 3) else if b.getD 0 0=1 then Kd.nu (Kd.aU b 1) (Kd.aU b 3) (b.getD 5 0) else none):=fun q _ _ _=>by rw [if_neg q]
 have k2:¬(b.getD 0 0=0∧b.getD 5 0=0)→∀(r:V) (H':Hp),EI T H' r (if b.getD 0 0=1 then Kd.nu (Kd.aU b 1) (Kd.aU b 3) (b.getD 5 0) else none)→aC H H'→Q r H':=fun q=>by
  rw [if_neg q] at k
  exact k
 refine bQ _ rfl a _ _ _ rfl rfl hs2 (cX (i:=0) rfl (qh ⋯)) (dt rfl _ rfl (aX (fun h1=>?_) (fun h1=>?_)))
 ·have h1':b.getD 0 0=0:=V.int.inj (bn h1)
  refine bQ _ rfl a _ _ _ rfl rfl hs2 (cX (i:=5) rfl (qh ⋯)) (dt rfl _ rfl (aX (fun h2=>?_) (fun h2=>?_)))
  ·have h2':b.getD 5 0=0:=V.int.inj (bn h2)
   rw [if_pos ⟨h1',h2'⟩] at k
   exact pP _ rfl _ rfl v1 v2 _ _ rfl (o1.same s2) o2 kD kD fun r H3 o3 s3=>k r H3 o3 (S.trans s3)
  ·have h2':¬b.getD 5 0=0:=fun q=>h2 (aE (cA V.int q))
   have k3:=k2 fun q=>h2' q.2
   refine bQ _ rfl a _ _ _ rfl rfl hs2 (cX (i:=0) rfl (qh ⋯)) (dt rfl _ rfl (aX (fun h3=>?_) (fun h3=>?_)))
   ·have h3':b.getD 0 0=1:=V.int.inj (bn h3)
    rw [h1'] at h3'
    cases h3'
   ·have h3':¬b.getD 0 0=1:=fun q=>h3 (aE (cA V.int q))
    rw [if_neg h3'] at k3
    exact k3 .non H2 rfl S
 ·have h1':¬b.getD 0 0=0:=fun q=>h1 (aE (cA V.int q))
  have k3:=k2 fun q=>h1' q.1
  refine bQ _ rfl a _ _ _ rfl rfl hs2 (cX (i:=0) rfl (qh ⋯)) (dt rfl _ rfl (aX (fun h3=>?_) (fun h3=>?_)))
  ·have h3':b.getD 0 0=1:=V.int.inj (bn h3)
   rw [if_pos h3'] at k3
   exact bD _ rfl _ rfl (bQ _ rfl a _ _ _ rfl rfl hs2 (cX (i:=5) rfl (qh ⋯)) (iK v1 v2 _ _ _ rfl (o1.same s2) o2 kD kD fun r H3 o3 s3=>k3 r H3 o3 (S.trans s3)))
  ·have h3':¬b.getD 0 0=1:=fun q=>h3 (aE (cA V.int q))
   rw [if_neg h3'] at k3
   exact k3 .non H2 rfl S
theorem LC {xs:List V} {i n:Nat} {k j:Int} (ek:k=(i:Int)) (ej:j=((i+n:Nat):Int)) (h:i+n≤xs.length):vi xs (some k) (some j)=(xs.drop i).take n:=by
 subst ek ej
 unfold vi HT.sIx
 simp only [cV]
 rw [if_neg ⋯,if_neg ⋯,wR (show i≤xs.length by omega),wR h]
 congr 1
 omega
theorem oQ (b:List Int) (i n j:Nat) (h:j<n):((b.drop i).take n).getD j 0=b.getD (i+j) 0:=by
 rw [e8,e8,List.getElem?_take,if_pos h,List.getElem?_drop]
theorem IU (b:List Int) (i:Nat):Kd.rp ((b.drop i).take 6) 0=Kd.rp b i:=by
 unfold Kd.rp Kd.aU
 rw [oQ b i 6 0 (),oQ b i 6 5 (),oQ b i 6 1 (),oQ b i 6 2 (),oQ b i 6 3 (),oQ b i 6 4 ()]
 rfl
theorem j7.cut {b:List Int} (h:j7 b) (i n:Nat):j7 ((b.drop i).take n):=fun x hx=>h x (List.mem_of_mem_drop (List.mem_of_mem_take hx))
def pJ (T:Tx K mg):Sp:=yc T 6 0 (fun b i=>Kd.rp b (6*i))
theorem yU (T:Tx K mg):dO P w base T.f8 7 (pJ T):=by
 refine T.f8.okA kL ?_
 rintro _ A _ s H _ Q E hr
 refine FK ?_
 rintro a b n rfl hs hz hl hn k
 refine⟨_,(ae (aj (j9 (own:= [("i",2)]) rfl kL.nd (cu rfl T.dk (ab (pv 0) ad)) (ci (N:= ["many","numbers","i"]) (sc:=ag lJ) (by decide+kernel)) (fun _ _ _ _ _=>(kZ 2 kL.nd)) (fun _ _ _ _ _=>dS) (fun _ _ _ _ _=>(bj T.rO (AQ T) hr (ab (xM (MB (K':=K) rfl) (pv 1) (qJ (aB aJ am (pv 2))) (qJ (aB b7 (aB aJ am (pv 2)) am))) ad)))))),?_⟩
 refine sY _ rfl _ rfl ⋯ ⋯ fun L hL=>gA (n:=(n:Int).toNat) (fun i H'=>∃acc,H' L=some (.lst acc)∧jq T H' acc ((List.range i).map fun i=>Kd.rp b (6*i))∧aC H H') (df ([]) af (jq.nil _ _) (aC.laid hL)) ?_ ?_
 ·rintro i H1 hi
  refine lB fun acc hA hO sm=>?_
  rw [cV] at hi
  have iz:Sz 20 (0+(i:Int)):=by show(_:Int).natAbs<_;omega
  refine dt rfl _ rfl (eu _ rfl _ _ rfl rfl (bE (show Sz 3 6 by decide) iz) (bD _ rfl _ rfl (jt _ _ rfl rfl (bE (show Sz 3 6 by decide) iz) _ _ rfl rfl (cy _ rfl a _ rfl (sm.seq hs) fun c hc=>?_))))
  rw [LC (i:=6*i) (n:=6) ⋯ (by show(6*(0+(i:Int))+6)=_;omega) (by rw [aD];omega),←List.map_drop,←List.map_take] at*
  have sc:=aC.laid (o:= .lst (((b.drop (6*i)).take 6).map V.int)) hc
  refine cK c _ rfl (b8 (a5.of af) (hz.cut _ _) (by rw [ii,C9];omega) fun r H3 o3 s3=>?_)
  rw [IU] at o3
  refine gk (fun e1 e2 e3=>?_) (qU (f:=fun i=>Kd.rp b (6*i)) hA hO ⋯ o3 (sc.trans s3))
  exact bJ acc e1 (mU e2 _ af e3 fun q o e=>by rw [ak (aw e hL)];exact s3 _ _ (sc _ _ (sm _ _ e)))
 ·rintro H1
  refine lB fun acc hA hO sm=>?_
  rw [cV] at hO
  exact k L H1 acc hA hO sm hL
open Vbdeab (Class Dist)
theorem va (k:Int):∀kvs:List (Int×V),(DP kvs k).isSome=decide (k∈kvs.map (·.1))
 | []=>rfl
 | p::r=>by
  have ih:=va k r
  unfold DP at ih⊢
  rw [C8,e9]
  by_cases e:p.1=k
  ·rw [aE e,aE (by rw [e];exact fD)]
   rfl
  ·rw [br e]
   simp only
   rw [ih]
   by_cases q:k∈r.map (·.1)
   ·rw [aE q,aE (dX _ q)]
   ·rw [br q,br fun z=>by rcases cH.mp z with z | z;exact e z.symm;exact q z]
def rS (T:Tx K mg):Addr→Sp→Prop:=fun f sp=>(f=T.jo.f∧sp=uv T)∨(f=T.kW.f∧sp=vS T)∨(f=T.jp.f∧sp=uy T)∨(f=T.kS.f∧sp=vR T)∨(f=T.eT.f∧sp=mT T)∨(f=T.zT.f∧sp=Ez T)
theorem AG {A:Around} (T:Tx K mg) (hr:eU 8 A):∀f sp,rS T f sp→∃k fd ps,j1 P w K mg base Bi k f fd ps sp∧eU k A∧PySem.W.keepIn K (.ref f)=true∧jc K fd ps []:=by
 rintro f sp (⟨rfl,rfl⟩ | ⟨rfl,rfl⟩ | ⟨rfl,rfl⟩ | ⟨rfl,rfl⟩ | ⟨rfl,rfl⟩ | ⟨rfl,rfl⟩)
 ·exact bY _ _ _ (B0 T) (hr.mono ()) T.jo.F.kp T.jo.b
 ·exact bY _ _ _ (Dv T) (hr.mono ()) T.kW.F.kp T.kW.b
 ·exact bY _ _ _ (B2 T) (hr.mono ()) T.jp.F.kp T.jp.b
 ·exact bY _ _ _ (Du T) (hr.mono ()) T.kS.F.kp T.kS.b
 ·exact bY _ _ _ (wk T) (hr.mono ()) T.eT.F.kp T.eT.b
 ·exact bY _ _ _ (KG T) (hr.mono ()) T.zT.F.kp T.zT.b
theorem xl {o:Option Dist} (h:o=none):checked o=none:=by rw [h];rfl
def A6 (T:Tx K mg):Sp:=fun vs H Q _=>∃(av:List Addr) (al bl:Addr) (kind:Int) (a b:List Int),vs= [.int kind,.ref al,.ref bl]∧(kind=0∨kind=1∨kind=6∨kind=7∨kind=8∨kind=9)∧a5 K H al (a.map V.int)∧a5 K H bl (b.map V.int)∧j7 a∧(∀b∈av,H b≠none)∧∀(v:V) (H':Hp),je T av H' v (checked (build kind a b))→aC H H'→Q v H'
theorem AK (T:Tx K mg):dO P w base T.rF 9 (A6 T):=by
 refine T.rF.okA sC ?_
 rintro _ A _ s H _ Q E hr
 refine Bg ?_
 rintro av al bl kind a b rfl hk ha hb hz hav k
 refine⟨_,(ac (aT (lr (ic (aR JH (a9 aW (by rfl) T.gx eA (ab (pv 1) ad)) (l4 (JZ T.bF) (pv 0)) (aY _)) (ik (aR vD (a9 aW (by rfl) T.gx eA (ab (pv 2) ad)) am (aY _))))) (ae (aj de)) aG)
   (ac (aZ 3 sC.nd (l4 (JZ T.bM) (pv 0)))
   (ae (aj (pc (i:=3) (rS T) rfl (Or.inl rfl) (AG T hr) (ab (pv 1) ad)))))),?_⟩
 have bad1:¬a.length=Kd.MI kind→Q .non H:=fun q=>by
  have e:checked (build kind a b)=none:=by
   by_cases c:b= []
   ·rw [c];exact xl (Kd.LS hk q)
   ·exact xl (Kd.D3 a ⋯ ⋯ ⋯ ⋯ c)
  rw [e] at k
  exact k .non H rfl (aC.refl' H)
 have bad2:¬b= []→Q .non H:=fun q=>by
  have e:=xl (Kd.D3 (kind:=kind) a ⋯ ⋯ ⋯ ⋯ q)
  rw [e] at k
  exact k .non H rfl (aC.refl' H)
 have la:(a.map V.int).length=a.length:=aD ..
 have lb:(b.map V.int).length=b.length:=aD ..
 have two:∀t:Nat,¬(!decide (V.int ((a.map V.int).length:Int)=V.int (t:Int)))=true→a.length=t:=fun t h=>by
  have:=V.int.inj (oW h)
  omega
 have two':∀t:Nat,(!decide (V.int ((a.map V.int).length:Int)=V.int (t:Int)))=true→¬a.length=t:=fun t h q=>oV h (by rw [la,q])
 have none_b:¬decide ((0:Int)<((b.map V.int).length:Int))=true→b= []:=fun h=>EF (by have:¬((0:Int)<((b.map V.int).length:Int)):=fun q=>h (aE q);omega)
 have some_b:decide ((0:Int)<((b.map V.int).length:Int))=true→¬b= []:=fun h q=>by have:=bn h;rw [lb,q] at this;simp at this
 rcases hk with rfl | rfl | rfl | rfl | rfl | rfl
 ·refine cy _ rfl al _ rfl (.inl ha) (bQ _ rfl T.bF.a _ _ _ rfl (T.bF.gd _ _) rfl rfl (dt rfl _ rfl (aX (fun h1=>jC (bad1 (two' 2 h1))) (fun h1=>(cy _ rfl bl _ rfl (.inl hb) ⟨_,(eQ _ rfl rfl _ rfl (aX (fun h2=>bad2 (some_b h2)) (fun h2=>?_)))⟩)))))
  obtain rfl:=none_b h2
  match a,two 2 h1,k,hz,ha with
  | [p,q],_,k,hz,ha=>exact fj _ rfl T.bM.a _ _ _ rfl (T.bM.gd _ _) rfl rfl _ _ rfl (.inl ⟨rfl,rfl⟩) (bQ _ rfl av al p q rfl ha hz hav k)
 ·refine cy _ rfl al _ rfl (.inl ha) (bQ _ rfl T.bF.a _ _ _ rfl (T.bF.gd _ _) rfl rfl (dt rfl _ rfl (aX (fun h1=>jC (bad1 (two' 2 h1))) (fun h1=>(cy _ rfl bl _ rfl (.inl hb) ⟨_,(eQ _ rfl rfl _ rfl (aX (fun h2=>bad2 (some_b h2)) (fun h2=>?_)))⟩)))))
  obtain rfl:=none_b h2
  match a,two 2 h1,k,hz,ha with
  | [p,q],_,k,hz,ha=>exact fj _ rfl T.bM.a _ _ _ rfl (T.bM.gd _ _) rfl rfl _ _ rfl (.inr (.inl ⟨rfl,rfl⟩)) (fB _ rfl av al (bR p q rfl ha hav k))
 ·refine cy _ rfl al _ rfl (.inl ha) (bQ _ rfl T.bF.a _ _ _ rfl (T.bF.gd _ _) rfl rfl (dt rfl _ rfl (aX (fun h1=>jC (bad1 (two' 3 h1))) (fun h1=>(cy _ rfl bl _ rfl (.inl hb) ⟨_,(eQ _ rfl rfl _ rfl (aX (fun h2=>bad2 (some_b h2)) (fun h2=>?_)))⟩)))))
  obtain rfl:=none_b h2
  match a,two 3 h1,k,hz,ha with
  | [n,p,q],_,k,hz,ha=>exact fj _ rfl T.bM.a _ _ _ rfl (T.bM.gd _ _) rfl rfl _ _ rfl (.inr (.inr (.inl ⟨rfl,rfl⟩))) (fB _ rfl av al (bY n p q rfl ha hav k))
 ·refine cy _ rfl al _ rfl (.inl ha) (bQ _ rfl T.bF.a _ _ _ rfl (T.bF.gd _ _) rfl rfl (dt rfl _ rfl (aX (fun h1=>jC (bad1 (two' 3 h1))) (fun h1=>(cy _ rfl bl _ rfl (.inl hb) ⟨_,(eQ _ rfl rfl _ rfl (aX (fun h2=>bad2 (some_b h2)) (fun h2=>?_)))⟩)))))
  obtain rfl:=none_b h2
  match a,two 3 h1,k,hz,ha with
  | [n,p,q],_,k,hz,ha=>exact fj _ rfl T.bM.a _ _ _ rfl (T.bM.gd _ _) rfl rfl _ _ rfl (.inr (.inr (.inr (.inl ⟨rfl,rfl⟩)))) (fB _ rfl av al (bY n p q rfl ha hav k))
 ·refine cy _ rfl al _ rfl (.inl ha) (bQ _ rfl T.bF.a _ _ _ rfl (T.bF.gd _ _) rfl rfl (dt rfl _ rfl (aX (fun h1=>jC (bad1 (two' 3 h1))) (fun h1=>(cy _ rfl bl _ rfl (.inl hb) ⟨_,(eQ _ rfl rfl _ rfl (aX (fun h2=>bad2 (some_b h2)) (fun h2=>?_)))⟩)))))
  obtain rfl:=none_b h2
  match a,two 3 h1,k,hz,ha with
  | [n,p,q],_,k,hz,ha=>exact fj _ rfl T.bM.a _ _ _ rfl (T.bM.gd _ _) rfl rfl _ _ rfl (.inr (.inr (.inr (.inr (.inl ⟨rfl,rfl⟩))))) (fB _ rfl av al (bY n p q rfl ha hav k))
 ·refine cy _ rfl al _ rfl (.inl ha) (bQ _ rfl T.bF.a _ _ _ rfl (T.bF.gd _ _) rfl rfl (dt rfl _ rfl (aX (fun h1=>jC (bad1 (two' 2 h1))) (fun h1=>(cy _ rfl bl _ rfl (.inl hb) ⟨_,(eQ _ rfl rfl _ rfl (aX (fun h2=>bad2 (some_b h2)) (fun h2=>?_)))⟩)))))
  obtain rfl:=none_b h2
  match a,two 2 h1,k,hz,ha with
  | [p,q],_,k,hz,ha=>exact fj _ rfl T.bM.a _ _ _ rfl (T.bM.gd _ _) rfl rfl _ _ rfl (.inr (.inr (.inr (.inr (.inr ⟨rfl,rfl⟩))))) (fB _ rfl av al (bR p q rfl ha hav k))
def rT (T:Tx K mg):Addr→Sp→Prop:=fun f sp=>(f=T.pV.f∧sp=Ar T)∨(f=T.fF.f∧sp=n0 T)∨(f=T.ga.f∧sp=pK T)∨(f=T.f8.f∧sp=pJ T)
theorem AH {A:Around} (T:Tx K mg) (hr:eU 7 A):∀f sp,rT T f sp→∃k fd ps,j1 P w K mg base Bi k f fd ps sp∧eU k A∧PySem.W.keepIn K (.ref f)=true∧jc K fd ps []:=by
 rintro f sp (⟨rfl,rfl⟩ | ⟨rfl,rfl⟩ | ⟨rfl,rfl⟩ | ⟨rfl,rfl⟩)
 ·exact bY _ _ _ (GG T) (hr.mono ()) T.pV.F.kp T.pV.b
 ·exact bY _ _ _ (xE T) (hr.mono ()) T.fF.F.kp T.fF.b
 ·exact bY _ _ _ (yW T) (hr.mono ()) T.ga.F.kp T.ga.b
 ·exact bY _ _ _ (yU T) (hr.mono ()) T.f8.F.kp T.f8.b
def A7 (T:Tx K mg):Sp:=fun vs H Q _=>∃(av:List Addr) (al bl:Addr) (kind:Int) (a b:List Int),vs= [.int kind,.ref al,.ref bl]∧(kind=2∨kind=3∨kind=4∨kind=5)∧H al=some (.lst (a.map V.int))∧a5 K H bl (b.map V.int)∧j7 b∧a.length≤8000∧al ∉ av∧(∀b∈av,H b≠none)∧∀(v:V) (H':Hp),je T av H' v (checked (build kind a b))→aC H H'→Q v H'
theorem AL (T:Tx K mg):dO P w base T.rG 8 (A7 T):=by
 refine T.rG.okA sH ?_
 rintro _ A _ s H _ Q E hr
 refine Bg ?_
 rintro av al bl kind a b rfl hk ha hb hz hl
 refine gk fun nal hav k=>?_
 refine⟨_,(ac (aT (aR JH (a9 aW (by rfl) T.gx eA (ab (pv 2) ad)) (aB b7 (aB aJ (l4 (JZ T.ca) (pv 0)) (a9 aW (by rfl) T.gx eA (ab (pv 1) ad))) (l4 (JZ T.cC) (pv 0))) (aY _)) (ae (aj de)) aG)
   (ac (aZ 3 sH.nd (l4 (JZ T.cQ) (pv 0)))
   (ae (aj (bj T.cI (cT T) hr (ab (pv 1) (ab (pc (i:=3) (rT T) rfl (Or.inl rfl) (AH T hr) (ab (a9 aW (by rfl) T.gx eA (ab (pv 1) ad)) (ab (pv 2) ad))) ad))))))),?_⟩
 have la:(a.map V.int).length=a.length:=aD ..
 have lb:(b.map V.int).length=b.length:=aD ..
 have az:Sz 20 ((a.map V.int).length:Int):=by rw [la];exact eI (oe hl ())
 have ne:∀m c:Nat,(!decide (V.int ((b.map V.int).length:Int)=V.int ((m:Int)*((a.map V.int).length:Int)+(c:Int))))=true→b.length≠m*a.length+c:=fun m c h q=>oV h (by rw [la,lb,q,pT,b9])
 have eq:∀m c:Nat,¬(!decide (V.int ((b.map V.int).length:Int)=V.int ((m:Int)*((a.map V.int).length:Int)+(c:Int))))=true→b.length=m*a.length+c:=fun m c h=>by
  have:=V.int.inj (oW h)
  rw [la,lb,←b9] at this
  omega
 have non:checked (build kind a b)=none→Q .non H:=fun e=>by
  rw [e] at k
  exact k .non H rfl (aC.refl' H)
 have fin:∀(f:Nat→Option Class),checked (build kind a b)=Kd.xh a ((List.range a.length).map f)→∀(p:Addr) (H':Hp) (ss:List V),H' p=some (.lst ss)→jq T H' ss ((List.range a.length).map f)→aC H H'→H p=none→lz T [.ref al,.ref p] H' Q E0:=fun f e p H' ss hp hO s np=>(ju av al p a ss _ rfl (s _ _ ha) hp hO (by rw [aD,ft]) ⋯ (b8 nal (eF hav np) (xk hav s) fun v H5 o5 s5=>k v H5 (by rw [e];exact o5) (s.trans s5)))
 rcases hk with rfl | rfl | rfl | rfl
 ·refine cy _ rfl bl _ rfl (.inl hb) (bQ _ rfl T.ca.a _ _ _ rfl (T.ca.gd _ _) rfl rfl (cy _ rfl al _ rfl (.inl (a5.of ha)) (bR _ _ rfl rfl (bE (show Sz 3 2 by decide) az) (fj _ rfl T.cC.a _ _ _ rfl (T.cC.gd _ _) rfl rfl _ _ rfl rfl (dt rfl _ rfl (aX (fun h1=>non (Kd.Ks (by have:=ne 2 0 h1;omega))) (fun h1=>?_)))))))
  have hlen:=eq 2 0 h1
  exact bQ _ rfl T.cQ.a _ _ _ rfl (T.cQ.gd _ _) rfl rfl (cy _ rfl _ _ rfl (.inl ⟨rfl,rfl⟩) (cy _ rfl al _ rfl (.inl (a5.of ha)) (cP _ rfl bl b a.length (by rw [la]) hb hz (fi hlen hl (fin _ (Kd.PH ⋯))))))
 ·refine cy _ rfl bl _ rfl (.inl hb) (bQ _ rfl T.ca.a _ _ _ rfl (T.ca.gd _ _) rfl rfl (cy _ rfl al _ rfl (.inl (a5.of ha)) (bR _ _ rfl rfl (bE (show Sz 3 2 by decide) az) (fj _ rfl T.cC.a _ _ _ rfl (T.cC.gd _ _) rfl rfl _ _ rfl rfl (dt rfl _ rfl (aX (fun h1=>non (Kd.Kt (by have:=ne 2 2 h1;omega))) (fun h1=>?_)))))))
  have hlen:=eq 2 2 h1
  exact bQ _ rfl T.cQ.a _ _ _ rfl (T.cQ.gd _ _) rfl rfl (cy _ rfl _ _ rfl (.inr (.inl ⟨rfl,rfl⟩)) (cy _ rfl al _ rfl (.inl (a5.of ha)) (cP _ rfl bl b a.length (by rw [la]) hb hz (fi hlen hl (fin _ (Kd.PJ ⋯))))))
 ·refine cy _ rfl bl _ rfl (.inl hb) (bQ _ rfl T.ca.a _ _ _ rfl (T.ca.gd _ _) rfl rfl (cy _ rfl al _ rfl (.inl (a5.of ha)) (bR _ _ rfl rfl (bE (show Sz 3 2 by decide) az) (fj _ rfl T.cC.a _ _ _ rfl (T.cC.gd _ _) rfl rfl _ _ rfl rfl (dt rfl _ rfl (aX (fun h1=>non (Kd.Ku (by have:=ne 2 0 h1;omega))) (fun h1=>?_)))))))
  have hlen:=eq 2 0 h1
  exact bQ _ rfl T.cQ.a _ _ _ rfl (T.cQ.gd _ _) rfl rfl (cy _ rfl _ _ rfl (.inr (.inr (.inl ⟨rfl,rfl⟩))) (cy _ rfl al _ rfl (.inl (a5.of ha)) (cP _ rfl bl b a.length (by rw [la]) hb hz (fi hlen hl (fin _ (Kd.PK ⋯))))))
 ·refine cy _ rfl bl _ rfl (.inl hb) (bQ _ rfl T.ca.a _ _ _ rfl (T.ca.gd _ _) rfl rfl (cy _ rfl al _ rfl (.inl (a5.of ha)) (bR _ _ rfl rfl (bE (show Sz 3 6 by decide) az) (fj _ rfl T.cC.a _ _ _ rfl (T.cC.gd _ _) rfl rfl _ _ rfl rfl (dt rfl _ rfl (aX (fun h1=>non (Kd.Kv (by have:=ne 6 0 h1;omega))) (fun h1=>?_)))))))
  have hlen:=eq 6 0 h1
  exact bQ _ rfl T.cQ.a _ _ _ rfl (T.cQ.gd _ _) rfl rfl (cy _ rfl _ _ rfl (.inr (.inr (.inr ⟨rfl,rfl⟩))) (cy _ rfl al _ rfl (.inl (a5.of ha)) (cP _ rfl bl b a.length (by rw [la]) hb hz (fi hlen hl (fin _ (Kd.PL ⋯))))))
def FA (T:Tx K mg):Sp:=fun vs H Q _=>∃(av:List Addr) (al bl:Addr) (kind:Int) (a b:List Int),vs= [.int kind,.ref al,.ref bl]∧H al=some (.lst (a.map V.int))∧a5 K H bl (b.map V.int)∧j7 a∧j7 b∧a.length≤8000∧al ∉ av∧(∀b∈av,H b≠none)∧∀(v:V) (H':Hp),je T av H' v (checked (build kind a b))→aC H H'→Q v H'
theorem E9 (T:Tx K mg):dO P w base T.zS 10 (FA T):=by
 refine T.zS.okA Fn ?_
 rintro _ A _ s H _ Q E hr
 refine Bg ?_
 rintro av al bl kind a b rfl ha hb hza hzb hl
 refine gk fun nal hav k=>?_
 refine⟨_,(ac (aT (Mt (pv 0) (JZ T.bM)) (ae (aj (bj T.rF (AK T) hr (ab (pv 0) (ab (pv 1) (ab (pv 2) ad)))))) aG)
   (ac (aT (Mt (pv 0) (JZ T.cQ)) (ae (aj (bj T.rG (AL T) hr (ab (pv 0) (ab (pv 1) (ab (pv 2) ad)))))) aG)
   (ae (aj de)))),?_⟩
 refine cP _ rfl T.bM.a _ kind rfl (T.bM.gd _ _) rfl (bJ _ rfl (aX (fun h1=>?_) (fun h1=>?_)))
 ·rw [va] at h1
  have h1':=bn h1
  simp only [e9,List.map_nil,cH,List.not_mem_nil,or_false] at h1'
  exact bd _ rfl _ rfl _ rfl (ju av al bl kind a b rfl h1' (a5.of ha) hb hza hav k)
 ·refine cP _ rfl T.cQ.a _ kind rfl (T.cQ.gd _ _) rfl (bJ _ rfl (aX (fun h2=>?_) (fun h2=>?_)))
  ·rw [va] at h2
   have h2':=bn h2
   simp only [e9,List.map_nil,cH,List.not_mem_nil,or_false] at h2'
   exact bd _ rfl _ rfl _ rfl (ju av al bl kind a b rfl h2' ha hb hzb hl (fi nal hav k))
  ·rw [va] at h1 h2
   have h1':=fun q=>h1 (aE q)
   have h2':=fun q=>h2 (aE q)
   simp only [e9,List.map_nil,cH,List.not_mem_nil,or_false] at h1' h2'
   have e:build kind a b=none:=Kd.Kw a b fun z z1 z2 q=>by
    subst q
    rcases (show kind=0∨kind=1∨kind=2∨kind=3∨kind=4∨kind=5∨kind=6∨kind=7∨kind=8∨kind=9 by omega) with q | q | q | q | q | q | q | q | q | q<;>first | exact(h1' ⋯).elim | exact(h2' ⋯).elim
   rw [xl e] at k
   exact k .non H rfl (aC.refl' H)
def Pi (b:Bool):Int:=if b=true then 1 else 0
def sf (t:Stream):List (Str×V):= [("state",.int (t.state:Nat)),("seed",.int (t.seed:Nat)),("count",.int t.count),("mirror",.int (Pi t.mirror))]
def bU (T:Tx K mg) (H:Hp) (a:Addr) (t:Stream):Prop:=∃dx,H a=some (.ins T.aK.C dx (sf t))
def iE (H H':Hp) (a:Addr):Prop:=∀b o,H b=some o→b≠a→H' b=some o
def rf (a:Addr) (pos:Nat):List (Str×V):= [("numbers",.ref a),("position",.int (pos:Nat))]
def mo (T:Tx K mg) (H:Hp) (r a:Addr) (pos:Nat):Prop:=∃dx,H r=some (.ins T.bu.C dx (rf a pos))
theorem iE.seq {H H':Hp} {a b:Addr} {C dx:Addr} {fs:List (Str×V)} {xs:List V} (k:iE H H' a) (ha:H a=some (.ins C dx fs)) (h:a5 K H b xs):a5 K H' b xs:=by
 rcases h with(h | ⟨o,h⟩) | h
 ·exact .inl (.inl (k _ _ h (bg h ha (by intro z;cases z))))
 ·exact .inl (.inr ⟨o,k _ _ h (bg h ha (by intro z;cases z))⟩)
 ·exact .inr h
def zp (T:Tx K mg):Sp:=Hb T.aK.C (fun args fs=>∃s:Nat,args= [.int s]∧fs=sf ⟨s,s,0,false⟩)
theorem gZ (T:Tx K mg):sP mg P w base T.fq 1 (zp T):=by
 refine T.fq.okA zd ?_ (by rintro _ _ _ _ ⟨p,dx,_,_,rfl,⟨s,rfl,rfl⟩,hp,k⟩;rfl)
 rintro _ A _ s H _ Q E hr
 refine oF ?_
 rintro p dx _ _ rfl U1 hp k
 refine a4 ?_ U1
 rintro s rfl rfl
 refine⟨_,(ac (cv (pv 0) (pv 1) rfl)
   (ac (cv (pv 0) (pv 1) rfl)
   (ac (cv (pv 0) am rfl)
   (ae (cv (pv 0) am rfl))))),?_⟩
 refine pP _ rfl _ rfl p _ dx ([]) rfl hp T.aK.cl (T.aK.no _ ()) (by show 0<1000;decide) ?_
 refine pP _ rfl _ rfl p _ dx _ rfl af T.aK.cl (T.aK.no _ ()) (by show 1<1000;decide) ?_
 refine gP _ rfl p _ dx _ rfl af T.aK.cl (T.aK.no _ ()) (by show 2<1000;decide) ?_
 refine gP _ rfl p _ dx _ rfl af T.aK.cl (T.aK.no _ ()) (by show 3<1000;decide) ?_
 exact k _ af fun b o e hb=>by rw [ak hb,ak hb,ak hb,ak hb];exact e
def zr (T:Tx K mg):Sp:=fun vs H Q _=>∃(a:Addr) (t:Stream),vs= [.ref a]∧bU T H a t∧∀(y:Addr) (H':Hp),bU T H' y t→aC H H'→H y=none→Q (.ref y) H'
theorem yQ (T:Tx K mg):sP mg P w base T.oJ 3 (zr T):=by
 refine T.oJ.okA pC ?_
 rintro _ A _ s H _ Q E hr
 refine yw ?_
 rintro a t rfl U1 k
 obtain⟨dx,h1⟩:=U1
 refine⟨_,(ac (aZ 1 pC.nd (Ax T.fq (gZ T) hr (ab (ao (pv 0) rfl) ad)))
   (ac (cv (pv 1) (ao (pv 0) rfl) rfl)
   (ac (cv (pv 1) (ao (pv 0) rfl) rfl)
   (ac (cv (pv 1) (ao (pv 0) rfl) rfl)
   (ae (aj (pv 1))))))),?_⟩
 refine aM _ rfl a _ dx _ _ rfl h1 T.aK.cl (T.aK.no _ ()) rfl ?_
 intro y dy ny nd _
 refine dh ny nd (fun H1 hy s1=>?_) ⟨t.seed,rfl,rfl⟩
 have nay:a≠y:=aw h1 ny
 have h2:=s1 _ _ h1
 refine aM _ rfl a _ dx _ _ rfl h2 T.aK.cl (T.aK.no _ ()) rfl (gP _ rfl y _ dy _ rfl hy T.aK.cl (T.aK.no _ ()) (by show 4<1000;decide) ?_)
 refine aM _ rfl a _ dx _ _ rfl (by rw [ak nay];exact h2) T.aK.cl (T.aK.no _ ()) rfl (gP _ rfl y _ dy _ rfl af T.aK.cl (T.aK.no _ ()) (by show 4<1000;decide) ?_)
 refine aM _ rfl a _ dx _ _ rfl (by rw [ak nay,ak nay];exact h2) T.aK.cl (T.aK.no _ ()) rfl (gP _ rfl y _ dy _ rfl af T.aK.cl (T.aK.no _ ()) (by show 4<1000;decide) ?_)
 refine⟨_,rfl,?_⟩
 exact k y _ ⟨dy,af⟩ (fun b o e=>by
  have nb:b≠y:=aw e ny
  rw [ak nb,ak nb,ak nb]
  exact s1 _ _ e) ny
def qt (t:Stream) (steps:Int):Stream:={t with state:=Lc.lG (Lc.pw (steps%18446744073709551616).toNat) t.state,count:=t.count+steps}
def zq (T:Tx K mg):Sp:=fun vs H Q _=>∃(a:Addr) (t:Stream) (steps:Int),vs= [.ref a,.int steps]∧bU T H a t∧∀H':Hp,bU T H' a (qt t steps)→iE H H' a→Q .non H'
theorem oY (T:Tx K mg):sP mg P w base T.k7 5 (zq T):=by
 refine T.k7.okA ze ?_
 rintro _ A _ s H _ Q E hr
 refine d7 ?_
 rintro a t steps rfl U1 k
 obtain⟨dx,h1⟩:=U1
 refine⟨_,(ac (cv (pv 0) (zN (bj T.ve (xF T) hr (ab (pv 1) ad)) T.fE (gu T) hr (ab (ao (pv 0) rfl) ad)) rfl)
   (ae (uY (pv 0) (pv 1) EW))),?_⟩
 refine bD _ rfl steps rfl fun x H1 ⟨dl,hl⟩ s1=>?_
 have h2:=s1 _ _ h1
 refine bY x dl _ rfl hl rfl (aM _ rfl a _ dx _ _ rfl h2 T.aK.cl (T.aK.no _ ()) rfl (bY x _ t.state rfl ⟨dl,hl⟩ (Lc.mE _) ?_))
 refine gP _ rfl a _ dx _ rfl h2 T.aK.cl (T.aK.no _ ()) (by show 4<1000;decide) ?_
 refine aM _ rfl a _ dx _ _ rfl af T.aK.cl (T.aK.no _ ()) rfl (cy _ rfl _ _ rfl rfl (bV dx _ af (by show 4<1000;decide) ?_))
 exact k _ ⟨dx,af⟩ fun b o e hb=>by rw [ak hb,ak hb];exact s1 _ _ e
theorem BR (x:Nat):((6364136223846793005:Int)*(x:Int)+1442695040888963407)%18446744073709551616=((Vbdeab.next x:Nat):Int):=by
 unfold Vbdeab.next
 rw [Int.natCast_emod,pT,b9]
 rfl
theorem NA (x:Nat):((x:Int) /4294967296)=((Vbdeab.out x:Nat):Int):=by
 unfold Vbdeab.out
 rw [C5]
 rfl
theorem OR {x:Nat} (h:x<Vbdeab.P):Vbdeab.out x<4294967296:=Nat.div_lt_of_lt_mul h
theorem xP (t:Stream):(Vbdeab.raw t).1={t with state:=Vbdeab.next t.state,count:=t.count+1}:=by rw [Vbdeab.raw]
theorem NM (t:Stream):(Vbdeab.raw t).2=if t.mirror=true then 4294967296 - 1 - Vbdeab.out (Vbdeab.next t.state) else Vbdeab.out (Vbdeab.next t.state):=by
 rw [Vbdeab.raw]
 rfl
def rb (T:Tx K mg):Sp:=fun vs H Q _=>∃(a:Addr) (t:Stream),vs= [.ref a]∧bU T H a t∧∀H':Hp,bU T H' a (Vbdeab.raw t).1→iE H H' a→Q (.int ((Vbdeab.raw t).2:Nat)) H'
theorem bX (T:Tx K mg):sP mg P w base T.bL 1 (rb T):=by
 refine T.bL.okA jK ?_
 rintro _ A _ s H _ Q E hr
 refine yw ?_
 rintro a t rfl U1 k
 obtain⟨dx,h1⟩:=U1
 refine⟨_,(ac (cv (pv 0) (aB wn (aB b7 (aB aJ (fk T.Dk) (ao (pv 0) rfl)) (fk T.zX)) (fk T.uU)) rfl)
   (ac (uY (pv 0) am EW)
   (ac (aZ 1 jK.nd (aB cD (ao (pv 0) rfl) (fk T.dN)))
   (ac (aT (aR rY (ao (pv 0) rfl) am (aY _)) (ae (aj (aB cb (aB cb (fk T.dN) am) (pv 1)))) aG)
   (ae (aj (pv 1))))))),?_⟩
 refine aM _ rfl a _ dx _ _ rfl h1 T.aK.cl (T.aK.no _ ()) rfl (jt _ _ rfl rfl (oU () ()) _ _ rfl rfl (bR _ _ rfl rfl (by show(0:Int)<18446744073709551616;decide) ?_))
 refine gP _ rfl a _ dx _ rfl h1 T.aK.cl (T.aK.no _ ()) (by show 4<1000;decide) ?_
 refine aM _ rfl a _ dx _ _ rfl af T.aK.cl (T.aK.no _ ()) rfl (bV _ _ rfl rfl (bV dx _ af (by show 4<1000;decide) ?_))
 refine aM _ rfl a _ dx _ _ rfl af T.aK.cl (T.aK.no _ ()) rfl (bR _ _ rfl rfl ⟨(),by decide+kernel⟩ ?_)
 have kp:∀H2:Hp,H2 a=some (.ins T.aK.C dx (sf {t with state:=Vbdeab.next t.state,count:=t.count+1}))→iE H H2 a→Q (.int ((Vbdeab.raw t).2:Nat)) H2:=fun H2 e1 e2=>k H2 (by rw [xP];exact⟨dx,e1⟩) e2
 rw [NM] at kp
 have e3:((((6364136223846793005:Int)*(t.state:Int)+1442695040888963407)%18446744073709551616) /4294967296)=((Vbdeab.out (Vbdeab.next t.state):Nat):Int):=by rw [BR,NA]
 have hat:∀(z:Int),z=((Vbdeab.next t.state:Nat):Int)→(some (HO.ins T.aK.C dx (lu "count" (.int (t.count+1)) (lu "state" (.int z) (sf t)))):Option HO)=some (.ins T.aK.C dx (sf {t with state:=Vbdeab.next t.state,count:=t.count+1})):=fun z e=>by rw [e];rfl
 refine aM _ rfl a _ dx _ _ rfl af T.aK.cl (T.aK.no _ ()) rfl (dt rfl _ rfl (aX (fun hm=>?_) (fun hm=>?_)))
 ·have hm':t.mirror=true:=by
   have:=V.int.inj (bn hm)
   unfold Pi at this
   by_cases q:t.mirror=true
   ·exact q
   ·rw [if_neg q] at this;cases this
  refine bV _ _ rfl rfl (cy _ rfl _ _ rfl rfl ?_)
  rw [if_pos hm'] at kp
  show Q (.int ((4294967296:Int) - 1 - _)) _
  rw [e3]
  have hlt:Vbdeab.out (Vbdeab.next t.state)<4294967296:=OR (i6 _ Lc.Dq)
  have e4:(4294967296:Int) - 1 - ((Vbdeab.out (Vbdeab.next t.state):Nat):Int)=((4294967296 - 1 - Vbdeab.out (Vbdeab.next t.state):Nat):Int):=by omega
  rw [e4]
  exact kp _ (af.trans (hat _ (BR _))) fun b o e hb=>by rw [ak hb,ak hb];exact e
 ·have hm':¬t.mirror=true:=fun q=>hm (aE (by unfold Pi;rw [if_pos q]))
  refine⟨_,rfl,?_⟩
  rw [if_neg hm'] at kp
  show Q (.int _) _
  rw [e3]
  exact kp _ (af.trans (hat _ (BR _))) fun b o e hb=>by rw [ak hb,ak hb];exact e
def FD (T:Tx K mg):Sp:=fun vs H Q _=>∃(u:Nat) (many:Int),vs= [.int u,.int many]∧u<4294967296∧Q (.int ((u:Int)*many /4294967296)) H
theorem xG (T:Tx K mg):dO P w base T.vf 1 (FD T):=by
 refine T.vf.okA Fp ?_
 rintro _ A _ s H _ Q E hr
 refine yw ?_
 rintro u many rfl hu k
 refine⟨_,(ae (aj (aB cD (aB aJ (pv 0) (pv 1)) (fk T.dN)))),?_⟩
 exact bJ _ rfl (eu _ rfl _ _ rfl rfl (oU ⋯ ⋯) (bR _ _ rfl rfl ⟨(),by decide+kernel⟩ k))
theorem Np {l:List Int} {i:Nat} {z:Int} (h:l[i]?=some z):(l.map V.int)[i]?=some (V.int z):=by rw [du,h];rfl
theorem Bz {l:List Int} {i:Nat} {z:Int} {k:Int} (e:k=(i:Int)) (h:l[i]?=some z):Lk (l.map V.int) k=some (V.int z):=vy e (Np h)
theorem Ma {l:List Int} (h:∀x∈l,0≤x) {i:Nat} (hi:i<l.length):l[i]?=some (((l.map Int.toNat)[i]'(by rw [aD];exact hi):Nat):Int):=by
 rw [bH hi]
 congr 1
 rw [List.getElem_map,cE (h _ (List.getElem_mem hi))]
def yk (T:Tx K mg):Sp:=fun vs H Q _=>∃(u:Nat) (a:Addr) (ns:List Int),vs= [.int u,.ref a]∧u<4294967296∧a5 K H a (ns.map V.int)∧(weights ns).isSome=true∧Q (.int (chosen (ns.map Int.toNat) u:Nat)) H
theorem nB (T:Tx K mg):dO P w base T.jX 1 (yk T):=by
 refine T.jX.okA dU ?_
 rintro _ A _ s H _ Q E hr
 refine DR ?_
 rintro u a ns rfl hu hs hw k
 refine⟨_,(ac (aZ 2 dU.nd (aB aJ (pv 0) (a9 (EQ rfl) (by rfl) T.J4 (by rfl) (ab (pv 1) ad))))
   (ac (aZ 3 dU.nd am)
   (ac (aZ 4 dU.nd (ip (pv 1) am))
   (ac (lq cM (aR JG (pv 2) (aB aJ (fk T.dN) (pv 4)) (aY _)) (ac (ou (i:=3) dU.nd rfl (Or.inl rfl) am mw)
   (ae (ou (i:=4) dU.nd rfl (Or.inl rfl) (ip (pv 1) (pv 3)) mw))))
   (ae (aj (pv 3))))))),?_⟩
 refine rA (fun nn _ l1 l2 s1 s2=>?_) (jR hw)
 have hsum:=pL nn
 refine eY _ rfl _ rfl a ns rfl hs (bR _ _ rfl rfl (oU ⋯ ⋯) ?_)
 have h0:=Ma nn (i:=0) ⋯
 refine bQ _ rfl a _ _ _ rfl rfl hs (Bz (i:=0) rfl h0) ?_
 have hwl:(ns.map Int.toNat).length=ns.length:=aD ..
 refine⟨fun m σ H'=>∃i:Nat,m+i=ns.length∧σ= [some (.int u),some (.ref a),some (.int ((u*Vbdeab.sum (ns.map Int.toNat):Nat):Int)),some (.int i),some (.int ((Vbdeab.sum ((ns.map Int.toNat).take (i+1)):Nat):Int))]∧Ch.EK (ns.map Int.toNat) (u*Vbdeab.sum (ns.map Int.toNat)) i∧H'=H,⟨ns.length,?_⟩,?_⟩
 ·refine⟨0,(b8 rfl ?_ (Ch.EK.start ⋯) rfl)⟩
  rw [hsum,Ch.eC (bH (show 0<(ns.map Int.toNat).length by omega)),b9]
  simp only [List.take_zero,Ch.sum_nil,i7]
  rfl
 ·rintro m σ H'
  refine NZ ?_
  rintro i hm rfl sk rfl
  have hM:(4294967296:Nat)=Vbdeab.M:=rfl
  refine bD _ rfl _ rfl (jt _ _ rfl rfl (oU () ()) _ _ rfl rfl (bJ _ rfl (aX (fun hl=>⟨_,fun _ _ z=>z,?_⟩) (fun hl=>?_))))
  ·have hl':(4294967296:Int)*((Vbdeab.sum ((ns.map Int.toNat).take (i+1)):Nat):Int)≤((u*Vbdeab.sum (ns.map Int.toNat):Nat):Int):=bn hl
   have hl2:Vbdeab.M*Vbdeab.sum ((ns.map Int.toNat).take (i+1))≤u*Vbdeab.sum (ns.map Int.toNat):=by
    rw [←hM]
    exact Int.ofNat_le.mp (by rw [b9 4294967296];exact hl')
   have sk':=sk.next (Ch.JB (by rw [←hM];exact hu) ⋯) hl2
   have hi1:i+1<ns.length:=by have:=sk'.lt;omega
   refine cy _ rfl _ _ rfl rfl ?_
   refine bD _ rfl _ rfl (fj _ rfl a _ _ _ rfl rfl hs (Bz (i:=i+1) rfl (Ma nn hi1)) _ _ rfl rfl ?_)
   refine sY (m - 1) ⋯ (i+1) ⋯ ?_ sk' rfl
   rw [Ch.eC (l:=ns.map Int.toNat) (i:=i+1) (bH ⋯),pT (Vbdeab.sum _)]
   rfl
  ·have hl':¬(4294967296:Int)*((Vbdeab.sum ((ns.map Int.toNat).take (i+1)):Nat):Int)≤((u*Vbdeab.sum (ns.map Int.toNat):Nat):Int):=fun z=>hl (aE z)
   have hl2:u*Vbdeab.sum (ns.map Int.toNat)<Vbdeab.M*Vbdeab.sum ((ns.map Int.toNat).take (i+1)):=by
    rw [←hM]
    refine Int.ofNat_lt.mp ?_
    rw [b9 4294967296]
    exact Int.not_le.mp hl'
   refine⟨_,rfl,?_⟩
   have e:=sk.stop hl2
   unfold chosen at k
   rw [e] at k
   exact k
theorem Aa {l:List Int} {i:Nat} {z:Int}:(l.map V.int).set i (V.int z)=(l.set i z).map V.int:=yy.symm
theorem qo {n i:Nat} {k:Int} (e:k=(i:Int)) (h:i<n):M5 n k=some i:=by
 subst e
 unfold M5
 rw [if_pos (Int.natCast_nonneg i),if_pos ⋯]
 rfl
theorem QF {l:List Int} {i j:Nat} {x y:Int} (hx:l[i]?=some x) (hy:l[j]?=some y):(l.set i y).set j x=exchange l i j:=by
 unfold exchange
 rw [e8,e8,hx,hy]
 rfl
theorem LD {xs:List V} {m:Nat} {k:Int} (e:k=(m:Int)) (h:m≤xs.length):vi xs none (some k)=xs.take m:=by
 subst e
 unfold vi HT.sIx
 simp only [cV]
 rw [if_neg ⋯,wR h]
 rfl
def DN (T:Tx K mg):Sp:=fun vs H Q _=>∃(a r:Addr) (t:Stream) (l:List Int) (m:Nat),vs= [.ref a,.ref r,.int m]∧bU T H a t∧a5 K H r (l.map V.int)∧l.length≤1000∧m≤l.length∧∀(H':Hp) (p:Addr),H' p=some (.lst (((shuffled l.length (Vbdeab.raws m t).2 0 l).take m).map V.int))→bU T H' a (Vbdeab.raws m t).1→iE H H' a→H p=none→Q (.ref p) H'
theorem ot (T:Tx K mg):dO P w base T.nh 2 (DN T):=by
 refine T.nh.okA iI ?_
 rintro _ A _ s H _ Q E hr
 refine FL ?_
 rintro a r t l m rfl U1 hs hl hm k
 obtain⟨da,h1⟩:=U1
 refine⟨_,(ac (aZ 3 iI.nd (pb p9 (by rfl) T.Do (by rfl) (ab (pv 1) ad)))
   (ac (eh cM rfl (cu rfl T.dk (ab (pv 2) ad)) (kZ 4 iI.nd) (ac (aZ 5 iI.nd (aB b7 (pv 4) (bj T.vf (xG T) hr (ab (eO (pv 0) T.bL (bX T) hr) (ab (aB cb (a9 aW (by rfl) T.gx eA (ab (pv 3) ad)) (pv 4)) ad)))))
   (ac (aZ 6 iI.nd (ip (pv 3) (pv 4)))
   (ac (qK (ip (pv 3) (pv 5)) (qH (pv 3) (pv 4) iJ))
   (ae (qK (pv 6) (qH (pv 3) (pv 5) iJ)))))))
   (ae (aj (xM Bt (pv 3) NG (qJ (pv 2))))))),?_⟩
 refine cy _ rfl r _ rfl (.inl hs) fun q hq=>?_
 have naq:a≠q:=aw h1 hq
 refine sY _ rfl m rfl ⋯ ⋯ (gY (n:=(m:Int).toNat) (fun i σ H'=>∃v1 v2 v3:Option V,σ= [some (.ref a),some (.ref r),some (.int m),some (.ref q),v1,v2,v3]∧H' q=some (.lst ((shuffled l.length (Vbdeab.raws i t).2 0 l).map V.int))∧bU T H' a (Vbdeab.raws i t).1∧∀b o,H b=some o→b≠a→H' b=some o) ?_ ?_ ?_)
 ·refine bY none none none rfl ?_ ⟨da,?_⟩ fun b o e _=>?_
  ·rw [af,Ch.dC]
   rfl
  ·rw [ak naq,Ch.dC]
   exact h1
  ·rw [ak (aw e hq)]
   exact e
 ·rintro i σ H1 hi
  refine CZ ?_
  rintro v1 v2 v3 rfl hq1 U1 kp
  obtain⟨d1,ha1⟩:=U1
  have hi':i<m:=by omega
  have hlen:(shuffled l.length (Vbdeab.raws i t).2 0 l).length=l.length:=Ch.hX _ _ _ _
  refine bJ _ rfl (cP _ rfl a d1 _ rfl ha1 rfl (bV a _ rfl ⟨d1,ha1⟩ fun H2 ⟨d2,ha2⟩ kp2=>?_))
  have hq2:H2 q=some (.lst ((shuffled l.length (Vbdeab.raws i t).2 0 l).map V.int)):=kp2 _ _ hq1 (Ne.symm naq)
  refine cy _ rfl q _ rfl (.inl (a5.of hq2)) (cy _ rfl _ _ rfl rfl (bV _ _ rfl Ch.wq (bV _ _ rfl rfl ?_)))
  have ej:(0:Int)+(i:Int)+((((Vbdeab.raw (Vbdeab.raws i t).1).2:Nat):Int)*((((shuffled l.length (Vbdeab.raws i t).2 0 l).map V.int).length:Int) - (0+(i:Int))) /4294967296)=((i+(Vbdeab.raw (Vbdeab.raws i t).1).2*(l.length - i) /Vbdeab.M:Nat):Int):=by
   rw [aD,hlen,kt,pT,C5,b9,sI ⋯]
   rfl
  have hj:=Ch.Ms (n:=l.length) (i:=i) (u:=(Vbdeab.raw (Vbdeab.raws i t).1).2) ⋯ Ch.wq
  have gi:=bH (show i<(shuffled l.length (Vbdeab.raws i t).2 0 l).length by omega)
  have gj:=bH (show(i+(Vbdeab.raw (Vbdeab.raws i t).1).2*(l.length - i) /Vbdeab.M)<(shuffled l.length (Vbdeab.raws i t).2 0 l).length by omega)
  refine bJ _ rfl (bQ _ rfl q _ _ _ rfl rfl (a5.of hq2) (Bz (i:=i) (kt _) gi) ?_)
  refine bJ _ rfl (bQ _ rfl q _ _ _ rfl rfl (a5.of hq2) (Bz ej gj) (bJ _ rfl (bQ _ rfl q _ _ i rfl rfl hq2 (qo (kt _) (by rw [aD];omega)) ?_)))
  refine bD _ rfl _ rfl (bQ _ rfl q _ _ _ rfl rfl af (qo ej (by rw [sJ,aD];omega)) ?_)
  refine bY _ _ _ rfl ?_ ⟨d2,?_⟩ fun b o e nb=>?_
  ·rw [af,Aa,Aa,QF gi gj,Ch.fW,Ch.vQ,Ch.gF]
   simp only [i7]
  ·rw [ak naq,ak naq,ha2,Ch.fW]
  ·have nbq:b≠q:=aw e hq
   rw [ak nbq,ak nbq]
   exact kp2 _ _ (kp _ _ e nb) nb
 ·rintro σ H1
  refine CZ ?_
  rintro v1 v2 v3 rfl hq1 ha1 kp
  rw [cV] at hq1 ha1
  have hlen:(shuffled l.length (Vbdeab.raws m t).2 0 l).length=l.length:=Ch.hX _ _ _ _
  refine bJ _ rfl (eY _ rfl m rfl q _ rfl (a5.of hq1) fun p hp=>?_)
  rw [LD rfl (by rw [aD];omega),←List.map_take]
  obtain⟨d1,ha1⟩:=ha1
  refine k _ p af ⟨d1,?_⟩ (fun b o e nb=>?_) ?_
  ·rw [ak (aw ha1 hp)]
   exact ha1
  ·have e1:=kp _ _ e nb
   rw [ak (aw e1 hp)]
   exact e1
  ·cases e:H p with
   | none=>rfl
   | some o=>
    by_cases z:p=a
    ·rw [z,ha1] at hp;cases hp
    ·rw [kp _ _ e z] at hp;cases hp
def zo (T:Tx K mg):Sp:=Hb T.bu.C (fun args fs=>∃a:Addr,args= [.ref a]∧fs=rf a 0)
theorem yP (T:Tx K mg):sP mg P w base T.oI 1 (zo T):=by
 refine T.oI.okA zc ?_ (by rintro _ _ _ _ ⟨p,dx,_,_,rfl,⟨a,rfl,rfl⟩,hp,k⟩;rfl)
 rintro _ A _ s H _ Q E hr
 refine oF ?_
 rintro p dx _ _ rfl U1 hp k
 refine a4 ?_ U1
 rintro a rfl rfl
 refine⟨_,(ac (cv (pv 0) (pv 1) rfl)
   (ae (cv (pv 0) am rfl))),?_⟩
 refine pP _ rfl _ rfl p _ dx ([]) rfl hp T.bu.cl (T.bu.no _ ()) (by show 0<1000;decide) ?_
 refine gP _ rfl p _ dx _ rfl af T.bu.cl (T.bu.no _ ()) (by show 1<1000;decide) ?_
 exact k _ af fun b o e hb=>by rw [ak hb,ak hb];exact e
def wy (T:Tx K mg):Sp:=fun vs H Q _=>∃(r a:Addr) (pos:Nat) (ns:List Int),vs= [.ref r]∧mo T H r a pos∧a5 K H a (ns.map V.int)∧Q (.bl (decide (ns.length≤pos))) H
theorem we (T:Tx K mg):sP mg P w base T.lN 1 (wy T):=by
 refine T.lN.okA wt ?_
 rintro _ A _ s H _ Q E hr
 refine oF ?_
 rintro r a pos ns rfl U1 hs k
 obtain⟨dx,h1⟩:=U1
 refine⟨_,(ae (aj (Fc JG (ao (pv 0) rfl) (a9 aW (by rfl) T.gx eA (ab (ao (pv 0) rfl) ad)) (aY _)))),?_⟩
 refine aM _ rfl r _ dx _ _ rfl h1 T.bu.cl (T.bu.no _ ()) rfl (aM _ rfl r _ dx _ _ rfl h1 T.bu.cl (T.bu.no _ ()) rfl (bV a _ rfl (.inl hs) (bV _ _ rfl rfl ?_)))
 have e:decide (((ns.map V.int).length:Int)≤(pos:Int))=decide (ns.length≤pos):=by
  rw [aD]
  by_cases q:ns.length≤pos
  ·rw [aE q,aE (Int.ofNat_le.mpr q)]
  ·rw [br q,br fun z=>q (Int.ofNat_le.mp z)]
 show Q (.bl _) H
 rw [e]
 exact k
def pG (T:Tx K mg):Sp:=fun vs H Q _=>∃(r a:Addr) (pos:Nat) (ns:List Int) (z:Int),vs= [.ref r]∧mo T H r a pos∧a5 K H a (ns.map V.int)∧ns[pos]?=some z∧∀H':Hp,mo T H' r a (pos+1)→iE H H' r→Q (.int z) H'
theorem ah (T:Tx K mg):sP mg P w base T.au 1 (pG T):=by
 refine T.au.okA pB ?_
 rintro _ A _ s H _ Q E hr
 refine Bf fun r a=>?_
 refine DR ?_
 rintro pos ns z rfl U1 hs hz k
 obtain⟨dx,h1⟩:=U1
 refine⟨_,(ac (aZ 1 pB.nd (ip (ao (pv 0) rfl) (ao (pv 0) rfl)))
   (ac (uY (pv 0) am EW)
   (ae (aj (pv 1))))),?_⟩
 refine aM _ rfl r _ dx _ _ rfl h1 T.bu.cl (T.bu.no _ ()) rfl (aM _ rfl r _ dx _ _ rfl h1 T.bu.cl (T.bu.no _ ()) rfl (j4 a _ _ _ rfl rfl hs (Bz rfl hz) ?_))
 refine aM _ rfl r _ dx _ _ rfl h1 T.bu.cl (T.bu.no _ ()) rfl (bV _ _ rfl rfl (bV dx _ h1 (by show 2<1000;decide) ?_))
 refine⟨_,rfl,?_⟩
 exact k _ ⟨dx,af⟩ fun b o e hb=>by rw [ak hb];exact e
theorem Nf {xs:List V} {i n:Nat} {k j:Int} (ek:k=(i:Int)) (ej:j=((i+n:Nat):Int)) (h:i+n≤xs.length):vi xs (some k) (some j)=(xs.drop i).take n:=by
 subst ek ej
 unfold vi HT.sIx
 simp only [cV]
 rw [if_neg ⋯,if_neg ⋯,wR (show i≤xs.length by omega),wR h]
 congr 1
 omega
def uo (T:Tx K mg):Sp:=fun vs H Q _=>∃(r a:Addr) (pos n:Nat) (ns:List Int),vs= [.ref r]∧mo T H r a pos∧a5 K H a (ns.map V.int)∧ns[pos]?=some (n:Int)∧pos+1+n≤ns.length∧∀(H':Hp) (p:Addr),mo T H' r a (pos+1+n)→H' p=some (.lst (((ns.drop (pos+1)).take n).map V.int))→iE H H' r→H p=none→Q (.ref p) H'
theorem dQ (T:Tx K mg):sP mg P w base T.dj 2 (uo T):=by
 refine T.dj.okA gK ?_
 rintro _ A _ s H _ Q E hr
 refine FL ?_
 rintro r a pos n ns rfl U1 hs hz hn k
 obtain⟨dx,h1⟩:=U1
 refine⟨_,(ac (aZ 1 gK.nd (eO (pv 0) T.au (ah T) hr))
   (ac (aZ 2 gK.nd (ao (pv 0) rfl))
   (ac (uY (pv 0) (pv 1) EW)
   (ae (aj (xM Bt (ao (pv 0) rfl) (qJ (pv 2)) (qJ (ao (pv 0) rfl)))))))),?_⟩
 refine cP _ rfl r dx _ rfl h1 rfl ⟨r,(j4 a pos ns _ rfl ⟨dx,h1⟩ hs hz fun H1 ⟨d1,hr1⟩ kp1=>?_)⟩
 have hs1:a5 K H1 a (ns.map V.int):=kp1.seq h1 hs
 refine aM _ rfl r _ d1 _ _ rfl hr1 T.bu.cl (T.bu.no _ ()) rfl ?_
 refine aM _ rfl r _ d1 _ _ rfl hr1 T.bu.cl (T.bu.no _ ()) rfl (cy _ rfl _ _ rfl rfl (bV d1 _ hr1 (by show 2<1000;decide) ?_))
 have hs2:a5 K (bT H1 r (.ins T.bu.C d1 (lu "position" (.int (((pos+1:Nat):Int)+(n:Int))) (rf a (pos+1))))) a (ns.map V.int):=iE.seq (fun b o e hb=>by rw [ak hb];exact e) hr1 hs1
 refine aM _ rfl r _ d1 _ _ rfl af T.bu.cl (T.bu.no _ ()) rfl (bJ _ rfl (i4 _ rfl _ rfl r _ d1 _ _ rfl af T.bu.cl (T.bu.no _ ()) rfl (cy _ rfl a _ rfl hs2 fun p hp=>?_)))
 rw [Nf rfl (show(((pos+1:Nat):Int)+(n:Int))=((pos+1+n:Nat):Int) by omega) (by rw [aD];exact hn),←List.map_drop,←List.map_take]
 have nrp:r≠p:=aw af hp
 refine k _ p ⟨d1,?_⟩ af (fun b o e hb=>?_) ?_
 ·rw [ak nrp,af]
  have e:lu "position" (.int (((pos+1:Nat):Int)+(n:Int))) (rf a (pos+1))=rf a (pos+1+n):=by
   rw [show(((pos+1:Nat):Int)+(n:Int))=((pos+1+n:Nat):Int) by omega]
   rfl
  rw [e]
 ·have e1:bT H1 r (.ins T.bu.C d1 (lu "position" (.int (((pos+1:Nat):Int)+(n:Int))) (rf a (pos+1)))) b=some o:=by rw [ak hb];exact kp1 _ _ e hb
  rw [ak (aw e1 hp)]
  exact e1
 ·cases e:H p with
  | none=>rfl
  | some o=>
   rw [ak (Ne.symm nrp),kp1 _ _ e (Ne.symm nrp)] at hp
   cases hp
def ld (T:Tx K mg) (H:Hp) (rs:List Addr) (l:List (Int×Int)):Prop:=rs.length=l.length∧∀(j:Nat) r q,rs[j]?=some r→l[j]?=some q→fI T H r q.1 q.2
theorem ld.si {T:Tx K mg} {H H':Hp} {rs:List Addr} {l:List (Int×Int)} (h:ld T H rs l) (s:ib H H'):ld T H' rs l:=⟨h.1,fun j r q a b=>(h.2 j r q a b).si s⟩
theorem QE {xs:List V} {i n:Nat} {k j:Int} (ek:k=(i:Int)) (ej:j=((i+n:Nat):Int)) (h:i≤xs.length):vi xs (some k) (some j)=(xs.drop i).take n:=by
 subst ek ej
 unfold vi HT.sIx
 simp only [cV]
 rw [if_neg ⋯,if_neg ⋯,wR h]
 rcases sO (i+n) xs.length with q | q
 ·rw [wR ⋯]
  congr 1
  omega
 ·rw [Nat.min_eq_right ⋯,lD (by rw [C9];omega),lD (by rw [C9];omega)]
def gr (l:List (Int×Int)) (j:Nat):Int:=(l.getD j (0,1)).2
def JV (l:List (Int×Int)) (j:Nat):Int:=(l.getD j (0,1)).1
theorem B8 {T:Tx K mg} {H:Hp} {rs:List Addr} {l:List (Int×Int)} (h:ld T H rs l) {j:Nat} (hj:j<l.length):∃r,rs[j]?=some r∧fI T H r (JV l j) (gr l j):=by
 obtain⟨r,hr⟩:∃r,rs[j]?=some r:=⟨_,bH (by rw [h.1];exact hj)⟩
 refine⟨r,hr,?_⟩
 have e:l[j]?=some (l.getD j (0,1)):=by rw [e8,bH hj];rfl
 exact h.2 j r _ hr e
def QL:Str:="all_lowest.<locals>.<lambda>"
def TB (P:Addr) (H:Hp):Prop:=H P=some (.tbl #[])∨∃c':Addr,H P=some (.tbl #[rawInt 318,rawInt 44,.ref c'])∧H c'=some (.ext fun h=>h.CodeRec (.ref c') QL)
theorem TB.keep {P:Addr} {H H':Hp} (h:TB P H) (k1:∀b ps,H b=some (.tbl ps)→H' b=some (.tbl ps)) (k2:∀b φ,H b=some (.ext φ)→H' b=some (.ext φ)):TB P H':=by
 rcases h with h | ⟨c',h1,h2⟩
 ·exact .inl (k1 _ _ h)
 ·exact .inr ⟨c',k1 _ _ h1,k2 _ _ h2⟩
def Jg (T:Tx K mg) (P:Addr):Prop:=∃c,T.dM.fd.code= .ref c∧∀h:Heap,K.In h→PySem.W.CodeHd h c P
structure KQ (av:List Addr) (H H':Hp):Prop extends KP av H H' where
 t:∀P,TB P H→TB P H'
 x:∀b o u,H b=some (.frz o u)→H' b=some (.frz o u)
theorem KQ.same {av:List Addr} {H H':Hp} (s:aC H H'):KQ av H H':=⟨.same s,fun _ h=>h.keep (fun _ _ e=>s _ _ e) fun _ _ e=>s _ _ e,fun _ _ _ e=>s _ _ e⟩
theorem KQ.tab {av:List Addr} {H H':Hp} {P:Addr} (k:iE H H' P) (h:TB P H) (h':TB P H'):KQ av H H':=by
 obtain⟨ps,hP⟩:∃ps,H P=some (.tbl ps):=by
  rcases h with h | ⟨c',h,_⟩
  ·exact⟨_,h⟩
  ·exact⟨_,h⟩
 refine⟨⟨fun b C dx fs e _=>k _ _ e (bg e hP (by intro z;cases z)),fun b xs e _=>k _ _ e (bg e hP (by intro z;cases z))⟩,fun P2 h2=>?_,fun b o u e=>k _ _ e (bg e hP (by intro z;cases z))⟩
 by_cases q:P2=P
 ·rw [q];exact h'
 ·rcases h2 with h2 | ⟨c',h2,h3⟩
  ·exact .inl (k _ _ h2 q)
  ·exact .inr ⟨c',k _ _ h2 q,k _ _ h3 (bg h3 hP (by intro z;cases z))⟩
def nj (T:Tx K mg):Sp:=fun vs H Q _=>∃(a c:Addr) (rs:List Addr) (l:List (Int×Int)) (ps:List Nat) (st:Nat),vs= [.ref a,.ref c,.int st]∧H a=some (.lst (rs.map V.ref))∧ld T H rs l∧H c=some (.lst (dJ ps))∧(∀p∈ps,p<l.length)∧st<ps.length∧∀(H':Hp) (p:Addr),H' p=some (.lst (dJ (((ps.drop st).take 16).filter fun j=>decide (gr l j=gr l (ps.getD st 0)))))→aC H H'→H p=none→Q (.ref p) H'
theorem ni (T:Tx K mg):dO P w base T.fO 1 (nj T):=by
 refine T.fO.okA dA ?_
 rintro _ A _ s H _ Q E hr
 refine Bg ?_
 rintro a c rs l ps st rfl ha hx hc hlt hst k
 refine⟨_,(ac (aZ 3 dA.nd (ao (ip (pv 0) (ip (pv 1) (pv 2))) rfl))
   (ae (aj (j9 (own:= [("place",4)]) rfl dA.nd (cF (xM Bt (pv 1) (qJ (pv 2)) (qJ (aB b7 (pv 2) (fk T.N0))))) (ci (N:= ["ratios","places","start","bottom","place"]) (sc:=ag fg) (by decide+kernel)) (fun _ _ _ _ _=>(kZ 4 dA.nd)) (fun _ _ _ _ _=>(Fg (aR rY (xK (K':=K) (GM (xt (K':=K) rfl) (pv 0) (pv 4) (fun _ _=>rfl)) (by rfl) rfl) (pv 3) (aY _)))) (fun _ _ _ _ _=>(pv 4)))))),?_⟩
 have e0:ps[st]?=some (ps.getD st 0):=by rw [e8,bH hst];rfl
 refine a4 (fun r0 hr0 U=>?_) (B8 hx (hlt _ (eR e0)))
 obtain⟨d0,h0⟩:=U
 refine bD _ rfl _ rfl (bQ _ rfl c _ _ _ rfl rfl (a5.of hc) (ql rfl e0) (j4 a _ _ _ rfl rfl (a5.of ha) (nG rfl hr0) (iK r0 _ d0 _ _ rfl h0 T.aA.cl (T.aA.no _ ()) rfl ?_)))
 refine bD _ rfl _ rfl (eY st rfl _ rfl _ _ rfl rfl (cy _ rfl c _ rfl (a5.of hc) fun G hG=>?_))
 have ec:vi (dJ ps) (some (st:Int)) (some ((st:Int)+16))=dJ ((ps.drop st).take 16):=by
  rw [QE (i:=st) (n:=16) rfl ⋯ (by rw [bf];omega)]
  unfold dJ nats
  rw [←List.map_drop,←List.map_drop,←List.map_take,←List.map_take]
 have sG:=aC.laid (o:= .lst (dJ ((ps.drop st).take 16))) hG
 have hGv:bT H G (.lst (vi (dJ ps) (some (st:Int)) (some ((st:Int)+16))))=bT H G (.lst (dJ ((ps.drop st).take 16))):=by rw [ec]
 refine df G rfl ⟨dJ ((ps.drop st).take 16),a5.of (by show bT H G (.lst (vi (dJ ps) (some (st:Int)) (some ((st:Int)+16)))) G=_;rw [af,ec])⟩ fun L hL=>?_
 have hL':bT H G (.lst (dJ ((ps.drop st).take 16))) L=none:=by rw [←hGv];exact hL
 generalize hg:(ps.drop st).take 16=g at*
 have hglt:∀p∈g,p<l.length:=fun p hp=>hlt p (by rw [←hg] at hp;exact List.mem_of_mem_drop (List.mem_of_mem_take hp))
 have gl:g.length≤16:=by rw [←hg,ii];omega
 have nL:H L=none:=sG.free hL'
 refine jD (xs:=dJ g) (fun i H'=>H' L=some (.lst (dJ ((g.take i).filter fun j=>decide (gr l j=gr l (ps.getD st 0)))))∧H' G=some (.lst (dJ g))∧aC H H') ?_ (fun i H' _ h=>a5.of h.2.1) ?_ ?_
 ·show bT (bT H G (.lst (vi (dJ ps) (some (st:Int)) (some ((st:Int)+16))))) L _ L=_∧_∧_
  rw [hGv]
  refine⟨af,?_,sG.trans (aC.laid hL')⟩
  rw [ak (aw af hL'),af]
 ·rintro i v H1 hv
  refine gk fun hL1 hG1 s1=>?_
  refine a4 ?_ (qk hv)
  rintro j hj rfl
  have hi':=(cg.mp hj).1
  refine a4 (fun r hrj U=>?_) (B8 hx (hglt j (eR hj)))
  obtain⟨dr,hrr⟩:=U
  have fl:∀i,((g.take i).filter fun j=>decide (gr l j=gr l (ps.getD st 0))).length≤16:=fun i=>fS (HI _ _) (by rw [ii];omega)
  refine dt rfl _ rfl (bQ _ rfl a _ _ _ rfl rfl (a5.of (s1 _ _ ha)) (nG rfl hrj) (iK r _ dr _ _ rfl (s1 _ _ hrr) T.aA.cl (T.aA.no _ ()) rfl (eQ _ rfl rfl _ rfl (aX (fun h1=>?_) (fun h1=>?_)))))
  ·have h1':gr l j=gr l (ps.getD st 0):=V.int.inj (bn h1)
   refine bD _ rfl _ hL1 (b8 ?_ ?_ ?_ fun q o e=>?_)
   ·rw [bf]
    have:=fl i
    show _<2 ^ 24
    omega
   ·rw [af,gz,Ch.bA hj,HE,uJ,if_pos (aE h1')]
    rfl
   ·rw [ak (fun q=>by rw [←q] at hL';rw [af] at hL';cases hL')]
    exact hG1
   ·rw [ak (aw e nL)]
    exact s1 q o e
  ·have h1':¬gr l j=gr l (ps.getD st 0):=fun q=>h1 (aE (cA V.int q))
   refine⟨?_,hG1,s1⟩
   rw [Ch.bA hj,HE,uJ,if_neg (fun q=>h1' (bn q))]
   rw [List.filter_nil,vU]
   exact hL1
 ·rintro H1
  refine gk fun hL1 hG1 s1=>?_
  rw [bf,jU] at hL1
  exact k H1 L hL1 s1 nL
def cY (b:Int):List Int→Int→Int
 | [],x=>x
 | t::r,x=>cY b r (x*t%b)
theorem xN (b t:Int):∀(l:List Int) (x:Int),cY b (l++ [t]) x=cY b l x*t%b
 | [],x=>rfl
 | a::r,x=>xN b t r _
theorem Ac {b:Int} (hb:0<b):∀(l:List Int) (x:Int),∃P,cY b l x%b=P%b∧x∣P∧∀t∈l,t∣P
 | [],x=>(df x rfl (Int.dvd_refl x) fun t h=>nomatch h)
 | a::r,x=>by
  refine lB (fun P e h1 h2=>?_) (Ac hb r (x*a%b))
  have key:∀(r:List Int) (y z:Int),y%b=z%b→cY b r y%b=cY b r z%b:=fun r=>by
   induction r with
   | nil=>intro y z h;exact h
   | cons c r ih=>
    intro y z h
    exact ih _ _ (by rw [Int.emod_emod_of_dvd _ (Int.dvd_refl b),Int.emod_emod_of_dvd _ (Int.dvd_refl b),Int.mul_emod,h,←Int.mul_emod])
  have prod:∀(r:List Int) (y:Int),cY b r y%b=(r.foldl (fun u v=>u*v) y)%b:=fun r=>by
   induction r with
   | nil=>intro y;rfl
   | cons c r ih=>
    intro y
    show cY b r (y*c%b)%b=_
    rw [key r (y*c%b) (y*c) (by rw [Int.emod_emod_of_dvd _ (Int.dvd_refl b)]),ih]
    rfl
  have fd:∀(r:List Int) (y:Int),y∣r.foldl (fun u v=>u*v) y∧∀t∈r,t∣r.foldl (fun u v=>u*v) y:=fun r=>by
   induction r with
   | nil=>intro y;exact⟨Int.dvd_refl y,fun t h=>nomatch h⟩
   | cons c r ih=>
    intro y
    obtain⟨i1,i2⟩:=ih (y*c)
    refine⟨Int.dvd_trans (Int.dvd_mul_right y c) i1,fun t h=>?_⟩
    rcases cH.mp h with q | q
    ·rw [q];exact Int.dvd_trans (Int.dvd_mul_left y c) i1
    ·exact i2 t q
  refine df ((a::r).foldl (fun u v=>u*v) x) (prod (a::r) x) (fd (a::r) x).1 (fd (a::r) x).2
def vt (T:Tx K mg):Sp:=fun vs H Q _=>∃(a:Addr) (rs:List Addr) (l:List (Int×Int)) (b:Int),vs= [.ref a]∧H a=some (.lst (rs.map V.ref))∧ld T H rs l∧0<l.length∧l.length≤16∧0<b∧(∀q∈l,q.2=b)∧Sz 600 b∧(∀q∈l,Sz 600 q.1)∧∀(S:Nat),0<S→(∀q∈l,Nat.gcd q.1.natAbs S=Nat.gcd q.1.natAbs b.toNat)→Q (.int (S:Nat)) H
theorem vk (T:Tx K mg):dO P w base T.kU 2 (vt T):=by
 refine T.kU.okA d6 ?_
 rintro _ A _ s H _ Q E hr
 refine MW ?_
 rintro a rs l b rfl ha hx hl0 hl hb
 refine nl fun hbs bz tz k=>?_
 refine⟨_,(ac (aZ 1 d6.nd (ao (ip (pv 0) am) rfl))
   (ac (aZ 2 d6.nd am)
   (ac (eh cM rfl (cF (pv 0)) (kZ 3 d6.nd) (ae (aZ 2 d6.nd (aB wn (aB aJ (pv 2) (ao (pv 3) rfl)) (pv 1)))))
   (ae (aj (bj T.cW (dm T) hr (ab (pv 2) (ab (pv 1) ad)))))))),?_⟩
 refine a4 (fun r0 hr0 U=>?_) (B8 hx hl0)
 obtain⟨d0,h0⟩:=U
 have eb:gr l 0=b:=hbs _ (by
  have:l[0]?=some (l.getD 0 (0,1)):=by rw [e8,bH hl0];rfl
  exact eR this)
 rw [eb] at h0
 refine bQ _ rfl a _ _ _ rfl rfl (a5.of ha) (nG (i:=0) rfl hr0) (iK r0 _ d0 _ _ rfl h0 T.aA.cl (T.aA.no _ ()) rfl ?_)
 refine pO _ rfl a rfl ⟨_,a5.of ha⟩ (eE (xs:=rs.map V.ref) (fun i σ H'=>H'=H∧∃v:Option V,σ= [some (.ref a),some (.int b),some (.int (cY b ((l.take i).map fun q=>q.1) 1)),v]∧Sz 601 (cY b ((l.take i).map fun q=>q.1) 1)) (dt rfl none rfl (by show(1:Int).natAbs<_;exact Nat.one_lt_two_pow ())) (fun i σ H' _ h=>by rw [h.1];exact a5.of ha) ?_ ?_)
 ·rintro i v σ H1 hv U
  obtain⟨rfl,v1,rfl,pz⟩:=U
  rw [du] at hv
  refine a4 ?_ (mW.mp hv)
  rintro r hrr rfl
  have hi':i<l.length:=by rw [←hx.1];exact(cg.mp hrr).1
  obtain⟨q,hq⟩:∃q,l[i]?=some q:=⟨_,bH hi'⟩
  obtain⟨dr,hra⟩:=hx.2 i r q hrr hq
  have e:cY b ((l.take (i+1)).map fun q=>q.1) 1=cY b ((l.take i).map fun q=>q.1) 1*q.1%b:=by rw [Ch.bA hq,dB];exact xN _ _ _ _
  refine i4 _ rfl _ rfl r _ dr _ _ rfl hra T.aA.cl (T.aA.no _ ()) rfl (bR _ _ rfl rfl (bE pz (tz q (eR hq))) (eu _ rfl _ _ rfl rfl hb (dt rfl _ (by rw [e];rfl) ?_)))
  rw [e]
  exact(bz.emod hb).mono ()
 ·rintro σ H1 U
  obtain⟨rfl,v1,rfl,pz⟩:=U
  rw [aD,hx.1,jU]
  refine lB (fun PP e1 e2 e3=>?_) (Ac hb (l.map fun q=>q.1) 1)
  refine eY _ rfl _ rfl _ _ rfl hb (k _ (HL _ ⋯) fun q hq=>?_)
  refine Kd.Kk hb (e3 _ (lV.mpr ⟨q,hq,rfl⟩)) ?_
  have ep:(cY b (l.map fun q=>q.1) 1)%b=PP%b:=e1
  rw [←ep]
  apply HK
  ·refine yB ?_ (jk _ _)
   have h1:=Fr.eB (cY b (l.map fun q=>q.1) 1) b.toNat
   have h2:((Nat.gcd (cY b (l.map fun q=>q.1) 1).natAbs b.toNat:Nat):Int)∣b:=by
    have:=C6.mpr (jk (cY b (l.map fun q=>q.1) 1).natAbs b.toNat)
    rwa [cE (fH hb)] at this
   have h3:((Nat.gcd (cY b (l.map fun q=>q.1) 1).natAbs b.toNat:Nat):Int)∣cY b (l.map fun q=>q.1) 1%b:=by
    rw [Int.emod_def]
    exact Int.dvd_sub h1 (Jd h2)
   have h4:=Ay.mpr h3
   rwa [kr] at h4
  ·refine yB ?_ (jk _ _)
   have h1:=Fr.eB (cY b (l.map fun q=>q.1) 1%b) b.toNat
   have h2:((Nat.gcd (cY b (l.map fun q=>q.1) 1%b).natAbs b.toNat:Nat):Int)∣b:=by
    have:=C6.mpr (jk (cY b (l.map fun q=>q.1) 1%b).natAbs b.toNat)
    rwa [cE (fH hb)] at this
   have h3:((Nat.gcd (cY b (l.map fun q=>q.1) 1%b).natAbs b.toNat:Nat):Int)∣cY b (l.map fun q=>q.1) 1:=by
    have e:=Int.emod_add_mul_ediv (cY b (l.map fun q=>q.1) 1) b
    conv=>rhs;rw [←e]
    exact Int.dvd_add h1 (Jd h2)
   have h4:=Ay.mpr h3
   rwa [kr] at h4
theorem vB (f:Nat→Int) (k:Int):∀(L:List Nat),L.Pairwise (fun i j=>f i≤f j)→(∀j∈L,k≤f j)→L.filter (fun j=>decide (f j=k))=L.take (L.filter (fun j=>decide (f j=k))).length
 | [],_,_=>rfl
 | a::L,hp,hk=>by
  obtain⟨h1,h2⟩:=List.pairwise_cons.mp hp
  by_cases q:f a=k
  ·rw [uJ,if_pos (aE q),d8,List.take_succ_cons,←vB f k L h2 fun j hj=>hk j (dX _ hj)]
  ·have e:(a::L).filter (fun j=>decide (f j=k))= []:=by
    rw [List.filter_eq_nil_iff]
    intro j hj
    have ha:=hk a fD
    rcases cH.mp hj with z | z
    ·rw [z];exact fun w=>q (bn w)
    ·have:=h1 j z
     exact fun w=>by have:=bn w;omega
   rw [e]
   rfl
theorem OE (js:List Nat):(js.map fun j:Nat=>V.int (j:Int))=dJ js:=by
 unfold dJ nats
 rw [fu]
 rfl
structure zY (T:Tx K mg) (H:Hp) (a p D Pl:Addr) (l:List (Int×Int)) (js:List Nat) (st:Nat) (Hc:Hp):Prop where
 res:∃xs:List Addr,Hc p=some (.lst (xs.map V.ref))∧xs.length=l.length∧∀(m:Nat) (j:Nat) x q,m<st→js[m]?=some j→xs[j]?=some x→l[j]?=some q→j2 T Hc x (Vbdeab.mkQ q.1 q.2.toNat)
 pl:Hc D=some (.lst (dJ js))
 kp:iE H Hc Pl
 tb:TB Pl Hc
 le:st≤l.length
theorem zY.same {T:Tx K mg} {H Hc Hd:Hp} {a p D Pl:Addr} {l:List (Int×Int)} {js:List Nat} {st:Nat} (I:zY T H a p D Pl l js st Hc) (s:aC Hc Hd):zY T H a p D Pl l js st Hd:=
 let ⟨⟨xs,h1,h2,h3⟩,h4,h5,h6,h7⟩:=I
 ⟨(df xs (s _ _ h1) h2 fun m j x q a b c d=>(h3 m j x q a b c d).same s),s _ _ h4,fun b o e hb=>s _ _ (h5 b o e hb),h6.keep (fun _ _ e=>s _ _ e) fun _ _ e=>s _ _ e,h7⟩
theorem zY.put {T:Tx K mg} {H Hc:Hp} {a p D Pl x:Addr} {l:List (Int×Int)} {js:List Nat} {st j:Nat} {q:Int×Int} {xs:List Addr} (I:zY T H a p D Pl l js st Hc) (hp:H p=none) (hD:D≠p) (hP:Pl≠p) (nd:js.Nodup) (hj:js[st]?=some j) (hlt:st<l.length) (hjl:j<l.length) (hq:l[j]?=some q) (hx:j2 T Hc x (Vbdeab.mkQ q.1 q.2.toNat))
  (hxs:Hc p=some (.lst (xs.map V.ref))):zY T H a p D Pl l js (st+1) (bT Hc p (.lst ((xs.set j x).map V.ref))):=by
 obtain⟨U,h4,h5,h6,h7⟩:=I
 refine lB (fun ys h1 h2 h3=>?_) U
 have e:ys=xs:=by
  rw [hxs] at h1
  have:=HO.lst.inj (bG h1)
  exact((List.map_inj_right (fun a b z=>V.ref.inj z)).mp this).symm
 subst e
 have si:ib Hc (bT Hc p (.lst ((ys.set j x).map V.ref))):=fun b C dx fs z=>by rw [ak (bg z hxs (by intro w;cases w))];exact z
 refine⟨(df _ af (by rw [sJ];exact h2) fun m j' x' q' hm e1 e2 e3=>?_),by rw [ak hD];exact h4,fun b o z hb=>by rw [ak (aw z hp)];exact h5 b o z hb,h6.keep (fun b ps z=>by rw [ak (bg z hxs (by intro w;cases w))];exact z) (fun b φ z=>by rw [ak (bg z hxs (by intro w;cases w))];exact z),⋯⟩
 by_cases hm':m=st
 ·rw [hm',hj] at e1
  cases e1
  rw [AB ⋯] at e2
  cases e2
  rw [hq] at e3
  cases e3
  exact hx.si si
 ·have ne:j≠j':=fun z=>by
   rw [←z] at e1
   exact hm' ((List.getElem?_inj (cg.mp e1).1 nd).mp (e1.trans hj.symm))
  rw [AA ne] at e2
  exact(h3 m j' x' q' ⋯ e1 e2 e3).si si
def A5 (T:Tx K mg):Sp:=fun vs H Q _=>∃(a Pl:Addr) (rs:List Addr) (l:List (Int×Int)),vs= [.ref a]∧H a=some (.lst (rs.map V.ref))∧ld T H rs l∧l.length≤100000∧(∀q∈l,0<q.2∧Sz 600 q.2∧Sz 600 q.1)∧Jg T Pl∧Dp K mg Pl H∧TB Pl H∧∀(H':Hp) (p:Addr) (xs:List Addr),H' p=some (.lst (xs.map V.ref))→xs.length=l.length→(∀(j:Nat) x q,xs[j]?=some x→l[j]?=some q→j2 T H' x (Vbdeab.mkQ q.1 q.2.toNat))→iE H H' Pl→TB Pl H'→H p=none→Q (.ref p) H'
theorem AJ (T:Tx K mg):j1 P w K mg base Bi 4 T.dM.f T.dM.fd ["ratios"] (A5 T):=by
 refine T.dM.F.okC cp (fun vs H Q E h=>?_) (fun cdv A outer s H vs Q E hcv hr h=>?_)
 ·refine oF ?_ h
  rintro a Pl rs l rfl ha hx
  refine rA fun hl hz U bm tb k=>?_
  refine a4 (fun c hc hC=>?_) U
  rfl
 ·refine oF ?_ h
  rintro a Pl rs l rfl ha hx
  refine rA fun hl hz U bm tb k=>?_
  refine a4 (fun c hc hC=>?_) U
  refine⟨_,(ac (aZ 1 cp.nd (pb p9 (by rfl) T.Do (by rfl) (ab (pv 0) ad)))
   (ac (aZ 2 cp.nd (IA (i:=0) hr rfl T.M3 (ab (yY rfl T.dk (ab (a9 aW (by rfl) T.gx eA (ab (pv 0) ad)) ad)) ad) rfl rfl rfl rfl rfl (fun _ _ _ _=>rfl) rfl rfl rfl () rfl rfl () () ()))
   (ac (aZ 3 cp.nd am)
   (ac (lq cM (aR ll (pv 3) (a9 aW (by rfl) T.gx eA (ab (pv 2) ad)) (aY _)) (ac (aZ 4 cp.nd (bj T.fO (ni T) hr (ab (pv 0) (ab (pv 2) (ab (pv 3) ad)))))
   (ac (aZ 6 cp.nd (bj T.kU (vk T) hr (ab (j9 (own:= [("place",5)]) rfl cp.nd (cF (pv 4)) (ci (N:= ["ratios","results","places","start","group","place","shared"]) (sc:=ag mH) (by decide+kernel)) (fun _ _ _ _ _=>(kZ 5 cp.nd)) (fun _ _ _ _ _=>dS) (fun _ _ _ _ _=>(GM (xt (K':=K) rfl) (pv 0) (pv 5) (fun _ _=>rfl)))) ad)))
   (ac (eh cM rfl (cF (pv 4)) (kZ 5 cp.nd) (ae (qK (bj T.lQ (wj T) hr (ab (ip (pv 0) (pv 5)) (ab (pv 6) ad))) (qH (pv 1) (pv 5) iJ))))
   (ae (ou (i:=3) cp.nd rfl (Or.inl rfl) (a9 aW (by rfl) T.gx eA (ab (pv 4) ad)) mw))))))
   (ae (aj (pv 1))))))),?_⟩
  refine cy _ rfl a _ rfl (.inl (a5.of ha)) fun p hp=>?_
  have h1a:bT H p (.lst (rs.map V.ref)) a=some (.lst (rs.map V.ref)):=by rw [ak (aw ha hp)];exact ha
  refine lA _ rfl a _ rfl (.inl (a5.of h1a)) ((rs.map V.ref).length:Int) rfl (fi ⋯ (by rw [aD,hx.1];omega) fun rg hrg=>?_)
  have nPl:∀b o,H b=some o→(∀ps,o≠ .tbl ps)→b≠Pl:=fun b o e hn z=>by
   rcases tb with tb | ⟨_,tb,_⟩
   ·rw [z,tb] at e;exact hn _ (bG e).symm
   ·rw [z,tb] at e;exact hn _ (bG e).symm
  have s1:aC H (bT H p (.lst (rs.map V.ref))):=aC.laid hp
  have s2:aC H (bT (bT H p (.lst (rs.map V.ref))) rg (.rng 0 ((rs.map V.ref).length:Int))):=s1.trans (aC.laid hrg)
  have e2:(rs.map V.ref).length=l.length:=by rw [aD,hx.1]
  refine⟨rg,(ju a Pl c l.length (rs.map V.ref) (l.map (·.2)) rfl (by rw [af,e2]) ⋯ rfl (s2 _ _ ha) (aD _) (fi (fun j kk hj=>?_) (hcv.symm.trans hc) (b8 hC (bm.keep fun _ _ _ e=>s2 _ _ e) (tb.keep (fun _ _ e=>s2 _ _ e) (fun _ _ e=>s2 _ _ e)) fun G D js k2 tb2 nD v2 v3=>?_)))⟩
  ·rw [du] at hj
   refine a4 ?_ (mW.mp hj)
   rintro q hq rfl
   refine a4 (fun r hr1 U=>?_) (B8 hx (cg.mp hq).1)
   obtain⟨dr,hr2⟩:=U
   have eb:gr l j=q.2:=by unfold gr;rw [e8,hq];rfl
   rw [eb] at hr2
   exact j4 r _ dr _ (by rw [du,hr1];rfl) (s2 _ _ hr2) T.aA.cl (T.aA.no _ ()) rfl
  rw [OE]
  have pPl:p≠Pl:=fun z=>by
   rcases tb with tb | ⟨_,tb,_⟩
   ·rw [←z,hp] at tb;cases tb
   ·rw [←z,hp] at tb;cases tb
  have prg:p≠rg:=fun z=>by rw [←z,af] at hrg;cases hrg
  have eGp:G p=some (.lst (rs.map V.ref)):=k2 p _ (by rw [ak prg,af]) pPl
  have nDp:D≠p:=fun z=>by rw [z,eGp] at nD;cases nD
  have tb3:TB Pl G:=tb2
  have jl:js.length=l.length:=by rw [v2.length_eq,ft]
  have jlt:∀j∈js,j<l.length:=fun j hj=>List.mem_range.mp (v2.mem_iff.mp hj)
  have jnd:js.Nodup:=v2.nodup_iff.mpr List.nodup_range
  refine⟨fun m σ H'=>∃(st:Nat) (x4 x5 x6:Option V),m+st=l.length∧σ= [some (.ref a),some (.ref p),some (.ref D),some (.int (st:Int)),x4,x5,x6]∧zY T H a p D Pl l js st H',(oE l.length 0 (h9 none none none rfl rfl ?_)),?_⟩
  ·refine⟨(df rs (by rw [ak (Ne.symm nDp)];exact eGp) hx.1 fun m j x q hm=>absurd hm (Nat.not_lt_zero _)),af,fun b o e hb=>?_,tb3.keep (fun b ps e=>by rw [ak (aw e nD)];exact e) (fun b ps e=>by rw [ak (aw e nD)];exact e),bo _⟩
   have gb:=k2 b o (s2 _ _ e) hb
   rw [ak (aw gb nD)]
   exact gb
  ·rintro m σ Hc
   refine Ja ?_
   rintro st x4 x5 x6 hm rfl I
   refine eY _ rfl _ rfl D _ rfl (.inl (a5.of I.pl)) ⟨_,(eQ _ rfl rfl _ rfl (aX (fun h1=>⟨_,fun _ _ z=>z,?_⟩) (fun h1=>?_)))⟩
   ·have h1':(st:Int)<((dJ js).length:Int):=bn h1
    rw [bf] at h1'
    have hst:st<js.length:=by omega
    have aPl:a≠Pl:=nPl _ _ ha (by intro ps z;cases z)
    have haC:=I.kp _ _ ha aPl
    have hxC:ld T Hc rs l:=⟨hx.1,fun j r q h1 h2=>let ⟨dx,e⟩:=hx.2 j r q h1 h2;⟨dx,I.kp _ _ e (nPl _ _ e (by intro ps z;cases z))⟩⟩
    refine bd _ rfl _ rfl _ rfl (ju a D rs l js st rfl haC hxC I.pl jlt hst fun H1 gp hg sg ng=>?_)
    generalize hk0:gr l (js.getD st 0)=k0 at hg
    generalize hgg:(((js.drop st).take 16).filter fun j=>decide (gr l j=k0))=g at hg
    have bk:∀j,j<l.length→(l.map fun x=>x.2).getD j 0=gr l j:=fun j hj=>by
     unfold gr
     rw [e8,e8,du,bH hj]
     rfl
    have hsub:List.Sublist ((js.drop st).take 16) js:=(List.take_sublist _ _).trans (List.drop_sublist _ _)
    have hpw:((js.drop st).take 16).Pairwise (fun i j=>gr l i≤gr l j):=(v3.sublist hsub).imp_of_mem fun {x y} hx' hy' h=>by
     rw [bk x (jlt x (hsub.subset hx')),bk y (jlt y (hsub.subset hy'))] at h
     exact h
    have hcons:(js.drop st).take 16=js.getD st 0::(js.drop (st+1)).take 15:=by
     rw [List.drop_eq_getElem_cons hst,List.take_succ_cons,e8,bH hst]
     rfl
    have gpre:g=((js.drop st).take 16).take g.length:=by
     have:=vB (gr l) k0 ((js.drop st).take 16) hpw (fun j hj=>by
      rw [hcons] at hpw hj
      rcases cH.mp hj with z | z
      ·rw [z,hk0];exact Int.le_refl _
      ·rw [←hk0];exact(List.pairwise_cons.mp hpw).1 j z)
     rw [hgg] at this
     exact this
    have g1:0<g.length:=by
     rw [←hgg]
     exact List.length_pos_of_mem (Dc.mpr ⟨by rw [hcons];exact fD,aE hk0⟩)
    have g16:g.length≤16:=by rw [←hgg];exact fS (HI _ _) (by rw [ii];omega)
    have gb:∀j∈g,gr l j=k0:=fun j hj=>by rw [←hgg] at hj;exact bn (Dc.mp hj).2
    have gat:∀(i j:Nat),g[i]?=some j→js[st+i]?=some j:=fun i j e=>by
     have hi:=(cg.mp e).1
     rw [gpre,List.getElem?_take_of_lt hi,List.getElem?_take_of_lt ⋯,List.getElem?_drop] at e
     exact e
    have glt:∀j∈g,j<l.length:=fun j hj=>by
     obtain⟨i,e⟩:=List.getElem?_of_mem hj
     exact jlt j (eR (gat i j e))
    refine pO _ rfl gp rfl ⟨_,a5.of hg⟩ fun L hL=>?_
    refine jD (xs:=dJ g) (fun i H'=>∃gs:List Addr,H' L=some (.lst (gs.map V.ref))∧gs.length=i∧(∀(u:Nat) x j,gs[u]?=some x→g[u]?=some j→rs[j]?=some x)∧H' gp=some (.lst (dJ g))∧aC H1 H') ?_ (fun i H' _ h=>let ⟨_,_,_,_,q,_⟩:=h;a5.of q) ?_ ?_
    ·refine bJ ([]) af (b8 rfl (fun u x j e=>by simp at e) ?_ (aC.laid hL))
     rw [ak (aw hg hL)]
     exact hg
    ·rintro i v H2 hv
     refine MU fun gs q1 q2 q3 q4 q5=>?_
     refine a4 ?_ (qk hv)
     rintro j hj rfl
     refine a4 (fun r hrj _=>?_) (B8 hx (glt j (eR hj)))
     refine dt rfl _ rfl (bQ _ rfl a _ _ _ rfl rfl (a5.of (q5 _ _ (sg _ _ haC))) (nG rfl hrj) (eQ _ q1 ?_ (gs++ [r]) ?_ (b8 ?_ (fun u x j' e1 e2=>?_) ?_ fun b o e=>?_)))
     ·rw [aD]
      have:=(cg.mp hj).1
      show _<2 ^ 24
      omega
     ·rw [af,dB]
      rfl
     ·rw [bZ,q2]
      rfl
     ·rcases sO u gs.length with z | z
      ·rw [n8 z] at e1
       exact q3 u x j' e1 e2
      ·rw [n9 z] at e1
       have e0:u - gs.length=0:=by
        rcases EG (u - gs.length) with w | w
        ·exact w
        ·rw [uK (by simp;omega)] at e1;cases e1
       have e3:u=i:=by omega
       rw [e0] at e1
       cases e1
       rw [e3,hj] at e2
       cases e2
       exact hrj
     ·rw [ak (aw hg hL)]
      exact q4
     ·rw [ak (aw e hL)]
      exact q5 _ _ e
    ·rintro H2
     refine MU fun gs q1 q2 q3 q4 q5=>?_
     rw [bf] at q2
     have sT:aC Hc H2:=fun b o e=>q5 _ _ (sg _ _ e)
     have hgl:(g.map fun j=>l.getD j (0,1)).length=g.length:=aD _
     have hgr:ld T H2 gs (g.map fun j=>l.getD j (0,1)):=⟨by rw [hgl];exact q2,fun u x q e1 e2=>by
      rw [du] at e2
      refine a4 ?_ (mW.mp e2)
      rintro j e3 rfl
      refine a4 (fun r hrj U=>?_) (B8 hxC (glt j (eR e3)))
      obtain⟨dr,hrr⟩:=U
      have:=q3 u x j e1 e3
      rw [hrj] at this
      cases this
      exact⟨dr,sT _ _ hrr⟩⟩
     have lmem:∀j∈g,l.getD j (0,1)∈l:=fun j hj=>by
      rw [e8,bH (glt j hj)]
      exact List.getElem_mem _
     obtain⟨j0,hj0⟩:∃j,j∈g:=⟨g[0],List.getElem_mem _⟩
     have hk0p:0<k0∧Sz 600 k0:=by
      have z:=hz _ (lmem j0 hj0)
      have e:(l.getD j0 (0,1)).2=k0:=gb j0 hj0
      rw [e] at z
      exact⟨z.1,z.2.1⟩
     refine j4 L gs (g.map fun j=>l.getD j (0,1)) k0 rfl q1 hgr (by rw [hgl];exact g1) (fi (by rw [hgl];exact g16) hk0p.1 (b8 (fun q hq=>?_) hk0p.2 (fun q hq=>?_) fun S hS hgcd=>?_))
     ·refine a4 ?_ (lV.mp hq)
      rintro j hj rfl
      exact gb j hj
     ·refine a4 ?_ (lV.mp hq)
      rintro j hj rfl
      exact(hz _ (lmem j hj)).2.2
     ·have hg2:=q4
      have gpp:gp≠p:=fun z=>by
       refine a4 (fun xs x1 _=>?_) I.res
       rw [z,x1] at ng
       cases ng
      refine pO _ rfl gp rfl ⟨_,a5.of hg2⟩ (eE (xs:=dJ g) (fun i σ H'=>∃x5:Option V,σ= [some (.ref a),some (.ref p),some (.ref D),some (.int (st:Int)),some (.ref gp),x5,some (.int (S:Nat))]∧zY T H a p D Pl l js (st+i) H'∧H' gp=some (.lst (dJ g))) (df x5 rfl (I.same sT) hg2) (fun i σ H' _ h=>let ⟨_,_,_,q⟩:=h;a5.of q) ?_ ?_)
      ·rintro i v σ H3 hv
       refine lB ?_
       rintro y5 rfl I3 hg3
       refine a4 ?_ (qk hv)
       rintro j hj rfl
       have jm:=eR hj
       refine a4 (fun r hrj U=>?_) (B8 hx (glt j jm))
       obtain⟨dr,hrr⟩:=U
       have hq:l[j]?=some (l.getD j (0,1)):=by rw [e8,bH (glt j jm)];rfl
       have hzj:=hz _ (lmem j jm)
       refine lB (fun xs x1 x2 x3=>?_) I3.res
       have hgc:Nat.gcd (JV l j).natAbs S=Nat.gcd (JV l j).natAbs (gr l j).toNat:=by
        rw [gb j jm]
        exact hgcd _ (lV.mpr ⟨j,jm,rfl⟩)
       refine bJ _ rfl (bQ _ rfl a _ _ _ rfl rfl (a5.of (I3.kp _ _ ha aPl)) (nG rfl hrj) (bQ _ rfl r (JV l j) (gr l j) S rfl ⟨dr,I3.kp _ _ hrr (nPl _ _ hrr (by intro ps z;cases z))⟩ hzj.1 (Sz.mono hzj.2.1 ()) (fi hS hgc fun x H4 hQ s4=>?_)))
       refine bJ _ rfl (bQ _ rfl p _ _ j rfl rfl (s4 _ _ x1) (qo rfl (by rw [aD,x2];exact glt j jm)) ?_)
       refine df _ rfl ?_ ?_
       ·rw [←yy]
        exact(I3.same s4).put hp nDp (Ne.symm pPl) jnd (gat i j hj) (by have:=(cg.mp (gat i j hj)).1;omega) (glt j jm) hq hQ (s4 _ _ x1)
       ·rw [ak gpp]
        exact s4 _ _ hg3
      ·rintro σ H3
       refine lB ?_
       rintro y5 rfl I3 hg3
       rw [bf] at I3
       refine eY _ rfl _ rfl gp _ rfl (.inl (a5.of hg3)) (bV _ _ rfl rfl (fB (l.length - (st+g.length)) ?_ (st+g.length) _ (bV _ _ ?_ (by rw [bf];rfl) I3)))
       ·have:=I3.le
        omega
       ·have:=I3.le
        omega
   ·have h1':¬((st:Int)<((dJ js).length:Int)):=fun q=>h1 (aE q)
    rw [bf] at h1'
    refine lB (fun xs x1 x2 x3=>?_) I.res
    refine⟨_,rfl,k Hc p xs x1 x2 (fun j x q e1 e2=>?_) I.kp I.tb hp⟩
    obtain⟨mm,hmm⟩:=List.getElem?_of_mem (v2.mem_iff.mpr (List.mem_range.mpr (cg.mp e2).1))
    exact x3 mm j x q (by have:=(cg.mp hmm).1;omega) hmm e1 e2
theorem EX {C D x y:Addr} {fs gs:List (Str×V)} (h:¬fs.length=gs.length):HO.ins C x fs≠HO.ins D y gs:=fun z=>h (cA List.length (HO.ins.inj z).2.2)
theorem Eh {α:Type}:∀{l:List α} {k:Nat} {y:α},l.Nodup→y ∉ l→(l.set k y).Nodup
 | [],_,_,_,_=>List.nodup_nil
 | x::l,0,y,h,hy=>uL.mpr ⟨fun m=>hy (dX _ m),(uL.mp h).2⟩
 | x::l,k+1,y,h,hy=>by
  obtain⟨h1,h2⟩:=uL.mp h
  refine uL.mpr ⟨fun m=>?_,Eh h2 fun m=>hy (dX _ m)⟩
  rcases List.mem_or_eq_of_mem_set m with q | q
  ·exact h1 q
  ·exact hy (by rw [←q];exact fD)
def QD (l l2:Addr):List (Str×V):= [("streams",.ref l),("distributions",.ref l2)]
theorem LR {C D x y:Addr} {n m:Str} {u v:V} {fs gs:List (Str×V)} (h:n≠m):HO.ins C x ((n,u)::fs)≠HO.ins D y ((m,v)::gs):=fun z=>by
 have e:=(HO.ins.inj z).2.2
 injection e with e1 _
 injection e1 with e2 _
 exact h e2
structure Gh where
 o:Addr
 l2:Addr
 P:Addr
def Gh.av (G:Gh) (l:Addr):List Addr:= [G.o,l,G.l2]
variable {G:Gh}
theorem KQ.keep1 {av:List Addr} {H H':Hp} {a C dx:Addr} {fs:List (Str×V)} (k:iE H H' a) (h:H a=some (.ins C dx fs)) (hf:QG fs=false):KQ av H H':=by
 refine⟨⟨fun b C' dx' fs' e h'=>k _ _ e fun q=>?_,fun b xs e _=>k _ _ e (bg e h (by intro z;cases z))⟩,fun P h2=>h2.keep (fun b ps e=>k _ _ e (bg e h (by intro z;cases z))) fun b φ e=>k _ _ e (bg e h (by intro z;cases z)),fun b o u e=>k _ _ e (bg e h (by intro z;cases z))⟩
 subst q
 rw [h] at e
 cases e
 rw [hf] at h'
 cases h'
theorem KQ.set {av:List Addr} {H:Hp} {l:Addr} {xs:List V} {o:HO} (hl:l∈av) (h:H l=some (.lst xs)):KQ av H (bT H l o):=
 ⟨⟨fun b C dx fs e _=>by rw [ak (bg e h (by intro z;cases z))];exact e,fun b ys e hb=>by rw [ak fun q=>hb (by rw [q];exact hl)];exact e⟩,fun P h2=>h2.keep (fun b ps e=>by rw [ak (bg e h (by intro z;cases z))];exact e) fun b φ e=>by rw [ak (bg e h (by intro z;cases z))];exact e,fun b o u e=>by rw [ak (bg e h (by intro z;cases z))];exact e⟩
structure DW (T:Tx K mg) (G:Gh) (l:Addr) (H:Hp) (ds:List (Option Vbdeab.Dist)):Prop where
 vs:∃vs:List V,H G.l2=some (.lst vs)∧vs.length=64∧∀(j:Nat) v x,vs[j]?=some v→ds[j]?=some x→je T (G.av l) H v x
 dlen:ds.length=64
 oo:∃xs,H G.o=some (.lst xs)
 n1:l≠G.o
 n2:G.l2≠G.o
 n3:l≠G.l2
 tb:TB G.P H
 to:Jg T G.P
 bm:Dp K mg G.P H
theorem DW.keep {T:Tx K mg} {l:Addr} {H H':Hp} {ds:List (Option Vbdeab.Dist)} (h:DW T G l H ds) (kp:KQ (G.av l) H H') (lk:∀c xs,H c=some (.lst xs)→c≠l→H' c=some (.lst xs)):DW T G l H' ds:=by
 obtain⟨U,dlen,U1,n1,n2,n3,tb,to,bm⟩:=h
 refine lB (fun vs h1 h2 h3=>?_) U
 obtain⟨xs,oo⟩:=U1
 exact⟨(df vs (lk _ _ h1 (Ne.symm n3)) h2 fun j v x a b=>(h3 j v x a b).kp kp.toKP),dlen,⟨xs,lk _ _ oo (Ne.symm n1)⟩,n1,n2,n3,kp.t _ tb,to,bm.keep kp.x⟩
theorem DW.same {T:Tx K mg} {l:Addr} {H H':Hp} {ds:List (Option Vbdeab.Dist)} (h:DW T G l H ds) (s:aC H H'):DW T G l H' ds:=h.keep (.same s) fun _ _ e _=>s _ _ e
theorem DW.keep1 {T:Tx K mg} {l a C dx:Addr} {fs:List (Str×V)} {H H':Hp} {ds:List (Option Vbdeab.Dist)} (h:DW T G l H ds) (k:iE H H' a) (e:H a=some (.ins C dx fs)) (hf:QG fs=false):DW T G l H' ds:=h.keep (.keep1 k e hf) fun _ _ q _=>k _ _ q (bg q e (by intro z;cases z))
def z4 (K:PySem.W.Frag) (H:Hp) (a:Addr) (ns:List Int):Prop:=(∃q,H a=some (.frz q (.lst (ns.map V.int))))∨((∀H':Hp,a5 K H' a (ns.map V.int)))
theorem z4.sq {H:Hp} {a:Addr} {ns:List Int} (h:z4 K H a ns):a5 K H a (ns.map V.int):=by
 rcases h with⟨q,h⟩ | h
 ·exact .inl (.inr ⟨q,h⟩)
 ·exact h H
theorem z4.keep {H H':Hp} {a:Addr} {ns:List Int} (k:∀c q u,H c=some (.frz q u)→H' c=some (.frz q u)) (h:z4 K H a ns):z4 K H' a ns:=by
 rcases h with⟨q,h⟩ | h
 ·exact .inl ⟨q,k _ _ _ h⟩
 ·exact .inr h
structure Wd (G:Gh) (T:Tx K mg) (H:Hp) (b r l a:Addr) (as:List Addr) (S:State) (ns:List Int) (pos:Nat):Prop where
 bank:∃dx,H b=some (.ins T.aQ.C dx (QD l G.l2))
 rd:mo T H r a pos
 req:z4 K H a ns
 lst:H l=some (.lst (as.map V.ref))
 nd:as.Nodup
 len:as.length=64
 slen:S.streams.length=64
 at_:∀(j:Nat) (x:Addr) (t:Stream),as[j]?=some x→S.streams[j]?=some t→bU T H x t
 ok:∀t∈S.streams,t.state<Vbdeab.P
 dw:DW T G l H S.dists
def KI (H H':Hp):Prop:=∀(x:Addr) (xs:List Int),H x=some (.lst (xs.map V.int))→H' x=some (.lst (xs.map V.int))
theorem KI.refl (H:Hp):KI H H:=fun _ _ h=>h
theorem KI.trans {H H1 H2:Hp} (a:KI H H1) (b:KI H1 H2):KI H H2:=fun x xs h=>b x xs (a x xs h)
def NF (H:Hp) (p:Addr):Prop:=∀(x:Addr) (xs:List Int),H x=some (.lst (xs.map V.int))→x≠p
theorem KI.nf {H H1:Hp} {p:Addr} (ki:KI H H1) (hp:H1 p=none):NF H p:=fun x xs h q=>by
 have z:=ki x xs h
 rw [q,hp] at z
 cases z
theorem KI.same {H H':Hp} (s:aC H H'):KI H H':=fun _ _ h=>s _ _ h
theorem KI.keep1 {H H':Hp} {a C dx:Addr} {fs:List (Str×V)} (k:iE H H' a) (h:H a=some (.ins C dx fs)):KI H H':=fun _ _ e=>k _ _ e (bg e h (by intro z;cases z))
section
variable {T:Tx K mg} {H H':Hp} {b r l a:Addr} {as:List Addr} {S:State} {ns:List Int} {pos:Nat}
theorem Wd.sq (W:Wd G T H b r l a as S ns pos):a5 K H a (ns.map V.int):=W.req.sq
theorem Wd.same (W:Wd G T H b r l a as S ns pos) (s:aC H H'):Wd G T H' b r l a as S ns pos:=by
 obtain⟨U,U1,hq,hl,nd,len,sl,at_,ok,dw⟩:=W
 obtain⟨dx,hb⟩:=U
 obtain⟨dr,hr⟩:=U1
 exact⟨⟨dx,s _ _ hb⟩,⟨dr,s _ _ hr⟩,hq.keep (fun _ _ _ e=>s _ _ e),s _ _ hl,nd,len,sl,fun j x t h1 h2=>let ⟨d,h⟩:=at_ j x t h1 h2;⟨d,s _ _ h⟩,ok,dw.same s⟩
theorem Wd.sGet (W:Wd G T H b r l a as S ns pos) {k:Nat} (h:k<64):∃x t,as[k]?=some x∧S.streams[k]?=some t∧S.stream k=t∧bU T H x t∧t.state<Vbdeab.P:=by
 have h1:k<as.length:=by rw [W.len];exact h
 have h2:k<S.streams.length:=by rw [W.slen];exact h
 refine cK (as[k]) (S.streams[k]) (bH h1) (b8 (bH h2) ?_ (W.at_ k _ _ (bH h1) (bH h2)) (W.ok _ (List.getElem_mem h2)))
 unfold State.stream
 rw [e8,bH h2]
 rfl
theorem Wd.reader (W:Wd G T H b r l a as S ns pos) {pos':Nat} (h1:mo T H' r a pos') (kp:iE H H' r):Wd G T H' b r l a as S ns pos':=by
 obtain⟨U,U1,hq,hl,nd,len,sl,at_,ok,dw⟩:=W
 obtain⟨dx,hb⟩:=U
 obtain⟨dr,hr⟩:=U1
 refine⟨⟨dx,kp _ _ hb (bg hb hr (LR ()))⟩,h1,hq.keep (fun _ _ _ e=>kp _ _ e (bg e hr (by intro z;cases z))),kp _ _ hl (bg hl hr (by intro z;cases z)),nd,len,sl,fun j x t h2 h3=>?_,ok,dw.keep1 kp hr rfl⟩
 obtain⟨d,h⟩:=at_ j x t h2 h3
 exact⟨d,kp _ _ h (bg h hr (EX (by show ¬4=2;decide)))⟩
theorem Mv {k:Nat} {t:Stream} (ok:∀t∈S.streams,t.state<Vbdeab.P) (h:t.state<Vbdeab.P):∀u∈(S.put k t).streams,u.state<Vbdeab.P:=fun u hu=>by
 rcases List.mem_or_eq_of_mem_set (show u∈S.streams.set k t from hu) with q | q
 ·exact ok u q
 ·rw [q];exact h
theorem Wd.stream (W:Wd G T H b r l a as S ns pos) {k:Nat} {x:Addr} {t t':Stream} (hx:as[k]?=some x) (h0:bU T H x t) (h1:bU T H' x t') (kp:iE H H' x) (hlt:t'.state<Vbdeab.P):Wd G T H' b r l a as (S.put k t') ns pos:=by
 obtain⟨U,U1,hq,hl,nd,len,sl,at_,ok,dw⟩:=W
 obtain⟨dx,hb⟩:=U
 obtain⟨dr,hr⟩:=U1
 obtain⟨d0,h0⟩:=h0
 refine⟨⟨dx,kp _ _ hb (bg hb h0 (EX (by show ¬2=4;decide)))⟩,⟨dr,kp _ _ hr (bg hr h0 (EX (by show ¬2=4;decide)))⟩,hq.keep (fun _ _ _ e=>kp _ _ e (bg e h0 (by intro z;cases z))),kp _ _ hl (bg hl h0 (by intro z;cases z)),nd,len,?_,fun j y u h2 h3=>?_,Mv ok hlt,dw.keep1 kp h0 rfl⟩
 ·show(S.streams.set k t').length=64
  rw [sJ]
  exact sl
 ·have h3':(S.streams.set k t')[j]?=some u:=h3
  by_cases hj:j=k
  ·subst hj
   have e1:y=x:=bG (h2.symm.trans hx)
   subst e1
   have hk:j<S.streams.length:=by rw [sl,←len];exact(cg.mp hx).1
   rw [AB hk] at h3'
   cases h3'
   exact h1
  ·rw [AA (fun q=>hj q.symm)] at h3'
   obtain⟨d,h⟩:=at_ j y u h2 h3'
   exact⟨d,kp _ _ h fun q=>hj (PV nd h2 (by rw [q];exact hx))⟩
theorem Wd.replace (W:Wd G T H b r l a as S ns pos) {k:Nat} {y:Addr} {t':Stream} (hk:k<64) (hy:y ∉ as) (h1:bU T H y t') (hlt:t'.state<Vbdeab.P):
  Wd G T (bT H l (.lst ((as.set k y).map V.ref))) b r l a (as.set k y) (S.put k t') ns pos:=by
 obtain⟨U,U1,hq,hl,nd,len,sl,at_,ok,dw⟩:=W
 obtain⟨dx,hb⟩:=U
 obtain⟨dr,hr⟩:=U1
 obtain⟨d1,h1⟩:=h1
 have kp:∀c o,H c=some o→c≠l→bT H l (.lst ((as.set k y).map V.ref)) c=some o:=fun c o e n=>by rw [ak n];exact e
 refine⟨⟨dx,kp _ _ hb (bg hb hl (by intro z;cases z))⟩,⟨dr,kp _ _ hr (bg hr hl (by intro z;cases z))⟩,hq.keep (fun _ _ _ e=>kp _ _ e (bg e hl (by intro z;cases z))),af,?_,?_,?_,fun j z u h2 h3=>?_,Mv ok hlt,dw.keep (.set (by unfold Gh.av;simp) hl) (fun c xs e n=>kp _ _ e n)⟩
 ·exact Eh nd hy
 ·rw [sJ];exact len
 ·show(S.streams.set k t').length=64
  rw [sJ]
  exact sl
 ·have h3':(S.streams.set k t')[j]?=some u:=h3
  by_cases hj:j=k
  ·subst hj
   rw [AB ⋯] at h2 h3'
   cases h2
   cases h3'
   exact⟨d1,kp _ _ h1 (bg h1 hl (by intro z;cases z))⟩
  ·rw [AA (fun q=>hj q.symm)] at h2 h3'
   obtain⟨d,h⟩:=at_ j z u h2 h3'
   exact⟨d,kp _ _ h (bg h hl (by intro z;cases z))⟩
theorem Wd.kiSet (W:Wd G T H b r l a as S ns pos) (o:HO):KI H (bT H l o):=fun x xs h=>by
 refine(ak fun q=>?_).trans h
 rw [q,W.lst] at h
 have e:=HO.lst.inj (bG h)
 have len:=W.len
 match as,len,xs,e with
 | x::_,_,[],e=>simp at e
 | x::_,_,z::_,e=>simp at e
end
def di (T:Tx K mg) (R:List Int→Vbdeab.Call→List Int→Prop):Sp:=fun vs H Q _=>∃(G:Gh) (b r l a:Addr) (as:List Addr) (S:State) (ns:List Int) (pos:Nat) (c:Vbdeab.Call) (rest:List Int),vs= [.ref b,.ref r]∧Wd G T H b r l a as S ns pos∧R (ns.drop pos) c rest∧
 ∀(H':Hp) (p:Addr) (as':List Addr) (pos':Nat),Wd G T H' b r l a as' (Vbdeab.step S c).1 ns pos'→ns.drop pos'=rest→H' p=some (.lst ((Vbdeab.step S c).2.map V.int))→KI H H'→NF H p→Q (.ref p) H'
theorem aF {T:Tx K mg} {H H1:Hp} {b r l a:Addr} {as1:List Addr} {S S1:State} {ns:List Int} {pos1:Nat} {c:Vbdeab.Call} {rest zs:List Int} {Q:VK}
  (k:∀(H':Hp) (p:Addr) (as':List Addr) (pos':Nat),Wd G T H' b r l a as' (Vbdeab.step S c).1 ns pos'→ns.drop pos'=rest→H' p=some (.lst ((Vbdeab.step S c).2.map V.int))→KI H H'→NF H p→Q (.ref p) H')
  (W:Wd G T H1 b r l a as1 S1 ns pos1) (hd:ns.drop pos1=rest) (ki:KI H H1) (es:Vbdeab.step S c=(S1,zs)):∀p,H1 p=none→Q (.ref p) (bT H1 p (.lst (zs.map V.int))):=fun p hp=>by
 rw [es] at k
 exact k _ p as1 pos1 (W.same (aC.laid hp)) hd af (ki.trans (KI.same (aC.laid hp))) (ki.nf hp)
theorem lg {ns:List Int} {pos:Nat} {z:Int} {rest:List Int} (h:ns.drop pos=z::rest):ns[pos]?=some z∧ns.drop (pos+1)=rest:=by
 constructor
 ·have:=cA List.head? h
  rwa [List.head?_drop] at this
 ·rw [←List.drop_drop,h]
  rfl
theorem aN {T:Tx K mg} {H0 H:Hp} {b r l a:Addr} {as:List Addr} {S:State} {ns rest:List Int} {pos:Nat} {z:Int} {σ:L2.St} {Q:V→Hp→Prop} (W:Wd G T H b r l a as S ns pos) (hd:ns.drop pos=z::rest) (ki:KI H0 H) (hσ:σ[1]?=some (some (.ref r)))
  (k:∀H1,Wd G T H1 b r l a as S ns (pos+1)→ns.drop (pos+1)=rest→KI H0 H1→Q (.int z) H1):Hr T.bu.C "take" (pG T) [] E0 (O9 1) MG σ H Q:=by
 obtain⟨g1,hd1⟩:=lg hd
 obtain⟨dr,hr⟩:=id W.rd
 exact cP _ hσ r dr _ rfl hr rfl ⟨r,(j4 a _ ns _ rfl ⟨dr,hr⟩ W.sq g1 fun H1 hr1 kp1=>k H1 (W.reader hr1 kp1) hd1 (ki.trans (KI.keep1 kp1 hr)))⟩
theorem cG (k:Int):streamOk k=decide (0≤k∧k≤63):=by
 unfold streamOk within
 by_cases h1:0≤k<;>by_cases h2:k≤63<;>simp [h1,h2]
theorem fh (k:Int):stateOk k=decide (0≤k∧k≤18446744073709551615):=by
 have e:(Vbdeab.P:Int)=18446744073709551616:=rfl
 unfold stateOk
 rw [e]
 by_cases h1:0≤k<;>by_cases h2:k<18446744073709551616<;>simp [h1,h2]<;>omega
theorem cx (n a b:Int):within n a b=decide (a≤n∧n≤b):=by
 unfold within
 by_cases h1:a≤n<;>by_cases h2:n≤b<;>simp [h1,h2]
theorem eG {p:Prop} [Decidable p] (h:(!decide p)=true):¬p:=fun q=>by rw [aE q] at h;cases h
theorem cj {p:Prop} [Decidable p] (h:¬(!decide p)=true):p:=by
 by_cases q:p
 ·exact q
 ·exact absurd (by rw [br q];rfl) h
theorem iU {S:State} {k:Int} {f:Stream→Except Int (Stream×List Int)} (h:¬(0≤k∧k≤63)):onStream S k f=(S,[-1]):=by
 unfold onStream
 rw [cG,br h,if_pos rfl]
theorem iV {S:State} {k e:Int} {f:Stream→Except Int (Stream×List Int)} (h:0≤k∧k≤63) (hf:f (S.stream k.toNat)= .error e):onStream S k f=(S,[e]):=by
 unfold onStream
 rw [cG,aE h,if_neg (),hf]
theorem mD {S:State} {k:Int} {r:Stream×List Int} {f:Stream→Except Int (Stream×List Int)} (h:0≤k∧k≤63) (hf:f (S.stream k.toNat)= .ok r):onStream S k f=(S.put k.toNat r.1,0::r.2):=by
 unfold onStream
 rw [cG,aE h,if_neg (),hf]
theorem Hm (S:State) (k:Int):Vbdeab.step S (.raw k)=onStream S k fun t=> .ok ((Vbdeab.raw t).1,[((Vbdeab.raw t).2:Int)]):=by rw [Vbdeab.step]
def CP (T:Tx K mg):Sp:=di T (fun d c rest=>∃k,d=k::rest∧c= .raw k)
theorem Mf (T:Tx K mg):dO P w base T.Di 3 (CP T):=by
 refine T.Di.okA G4 ?_
 rintro _ A _ s H _ Q E hr
 refine jv ?_
 rintro G b r l a as S ns pos c rest rfl W U1 kk
 refine a4 ?_ U1
 rintro k hd rfl
 refine⟨_,(ac (aZ 2 G4.nd (eO (pv 1) T.au (ah T) hr))
   (ac (aT (aV (aS (bj T.bB (a6 T) hr (ab (pv 2) ad)))) (ae (aj (aI (ab (fk T.bc) ad)))) aG)
   (ae (aj (aI (ab am (ab (eO (ip (ao (pv 0) rfl) (pv 2)) T.bL (bX T) hr) ad))))))),?_⟩
 obtain⟨g1,hd1⟩:=lg hd
 obtain⟨dr,hr⟩:=id W.rd
 refine cP _ rfl r dr _ rfl hr rfl ⟨r,(j4 a pos ns _ rfl ⟨dr,hr⟩ W.sq g1 fun H1 hr1 kp1=>?_)⟩
 have W1:=W.reader hr1 kp1
 have ki1:=KI.keep1 kp1 hr
 refine bd _ rfl k rfl _ rfl (aX (fun h1=>?_) (fun h1=>?_))
 ·exact⟨bC,aF kk W1 hd1 ki1 ((Hm S k).trans (iU (eG h1)))⟩
 ·have hk:=cj h1
  refine io (fun x t hx ht est hst hlt=>?_) (W1.sGet (k:=k.toNat) ⋯)
  obtain⟨db,hb⟩:=id W1.bank
  obtain⟨dx,hxo⟩:=id hst
  refine aM _ rfl b _ db _ _ rfl hb T.aQ.cl (T.aQ.no _ ()) rfl (bQ _ rfl l _ _ _ rfl rfl (a5.of W1.lst) (vy (j:=k.toNat) (v:=V.ref x) ⋯ (by rw [du,hx];rfl)) ⟨x,(jt dx _ rfl hxo rfl x t rfl hst fun H2 hs2 kp2=>?_)⟩)
  have W2:=W1.stream (t':=(Vbdeab.raw t).1) hx hst hs2 kp2 (by rw [xP];exact i6 _ Lc.Dq)
  exact⟨rm,aF (zs:= [0,((Vbdeab.raw t).2:Nat)]) kk W2 hd1 (ki1.trans (KI.keep1 kp2 hxo)) ((Hm S k).trans (mD (r:=((Vbdeab.raw t).1,[((Vbdeab.raw t).2:Int)])) hk (by rw [est])))⟩
end
end Pf
namespace Pf
open PySem PySem.Spec PyProof.Rows L2
section
variable {P:Program} {w:World} {K:PySem.W.Frag} {mg:Str→Option Value} {base:Heap} {G:Gh}
theorem Kp {as:List Addr} {k:Int} {x:Addr} (h:0≤k) (hx:as[k.toNat]?=some x):Lk (as.map V.ref) k=some (V.ref x):=vy (j:=k.toNat) (v:=V.ref x) ⋯ (by rw [du,hx];rfl)
theorem Io {T:Tx K mg} {H:Hp} {b r l a:Addr} {as:List Addr} {S:State} {ns:List Int} {pos:Nat} (W:Wd G T H b r l a as S ns pos) {y:Addr} (hy:H y=none):y ∉ as:=fun m=>by
 obtain⟨j,hj,e⟩:=List.getElem_of_mem m
 have h2:j<S.streams.length:=by rw [W.slen,←W.len];exact hj
 obtain⟨d,h⟩:=W.at_ j y _ (by rw [bH hj,e]) (bH h2)
 rw [hy] at h
 cases h
theorem Lb (S:State) (k x:Int):Vbdeab.step S (.seed k x)=if streamOk k=false then(S,[-1]) else if stateOk x=false then(S,[-2]) else(S.put k.toNat ⟨x.toNat,x.toNat,0,false⟩,[0]):=by rw [Vbdeab.step]
theorem La (S:State) (k n:Int):Vbdeab.step S (.raws k n)=onStream S k fun t=>if within n 0 1000=false then .error (-3) else .ok ((Vbdeab.raws n.toNat t).1,shownRow (nats (Vbdeab.raws n.toNat t).2)):=by rw [Vbdeab.step]
theorem Ld (S:State) (k n:Int):Vbdeab.step S (.skip k n)=onStream S k fun t=>if stateOk n=false then .error (-2) else .ok (t.moved n.toNat,[]):=by rw [Vbdeab.step]
theorem K3 (S:State) (k n:Int):Vbdeab.step S (.back k n)=onStream S k fun t=>if stateOk n=false then .error (-2) else .ok ({t with state:=Vbdeab.back n.toNat t.state,count:=t.count - n},[]):=by rw [Vbdeab.step]
theorem Hl (S:State) (k n:Int):Vbdeab.step S (.mirror k n)=onStream S k fun t=>if within n 0 1=false then .error (-4) else .ok ({t with mirror:=decide (n=1)},[]):=by rw [Vbdeab.step]
theorem IS (S:State) (k:Int):Vbdeab.step S (.where_ k)=onStream S k fun t=> .ok (t,[(t.state:Int),(t.seed:Int),t.count,if t.mirror=true then 1 else 0]):=by rw [Vbdeab.step]
theorem MD (S:State) (x y:Int):Vbdeab.step S (.far x y)=if stateOk x=false∨stateOk y=false then(S,[-2]) else(S,[0,((Vbdeab.far x.toNat y.toNat:Nat):Int)]):=by rw [Vbdeab.step]
theorem K7 (S:State) (k y:Int):Vbdeab.step S (.goto k y)=onStream S k fun t=>if stateOk y=false then .error (-2) else .ok (t.moved (Vbdeab.far t.state y.toNat),[(Vbdeab.far t.state y.toNat:Int)]):=by rw [Vbdeab.step]
theorem K5 (S:State) (k j:Int):Vbdeab.step S (.copy k j)=if streamOk k=false∨streamOk j=false then(S,[-1]) else(S.put k.toNat (S.stream j.toNat),[0]):=by rw [Vbdeab.step]
theorem dP {p:Prop} [Decidable p] (h:¬p):(decide p=false):=br h
def zH (T:Tx K mg):Sp:=di T (fun d c rest=>∃k s,d=k::s::rest∧c= .seed k s)
theorem KN (T:Tx K mg):dO P w base T.xc 3 (zH T):=by
 refine T.xc.okA zj ?_
 rintro _ A _ s H _ Q E hr
 refine jv ?_
 rintro G b r l a as S ns pos c rest rfl W U1 kk
 refine rB ?_ U1
 rintro k s hd rfl
 refine⟨_,(ac (aZ 2 zj.nd (eO (pv 1) T.au (ah T) hr))
   (ac (aZ 3 zj.nd (eO (pv 1) T.au (ah T) hr))
   (ac (aT (aV (aS (bj T.bB (a6 T) hr (ab (pv 2) ad)))) (ae (aj (aI (ab (fk T.bc) ad)))) aG)
   (ac (aT (aV (aS (bj T.gW (fV T) hr (ab (pv 3) ad)))) (ae (aj (aI (ab (fk T.iN) ad)))) aG)
   (ac (qK (Ax T.fq (gZ T) hr (ab (pv 3) ad)) (qH (ao (pv 0) rfl) (pv 2) iJ))
   (ae (aj (aI (ab am ad))))))))),?_⟩
 have W0:=W;have ki0:=KI.refl H;have hd0:=hd
 refine aN W0 hd0 ki0 rfl fun H1 W1 hd1 ki1=>?_
 refine aN W1 hd1 ki1 rfl fun H2 W2 hd2 ki2=>?_
 have es:=Lb S k s
 rw [cG,fh] at es
 refine bd _ rfl k rfl _ rfl (aX (fun h1=>?_) (fun h1=>?_))
 ·rw [if_pos (dP (eG h1))] at es
  exact⟨bC,aF kk W2 hd2 ki2 es⟩
 ·have hk:=cj h1
  rw [aE hk,if_neg ()] at es
  refine bd _ rfl s rfl _ rfl (aX (fun h2=>?_) (fun h2=>?_))
  ·rw [if_pos (dP (eG h2))] at es
   exact⟨bC,aF kk W2 hd2 ki2 es⟩
  ·have hs:=cj h2
   rw [aE hs,if_neg ()] at es
   refine⟨_,rfl,?_⟩
   intro y dy ny nd _
   refine dh ny nd (fun H3 hy s3=>?_) ⟨s.toNat,by rw [cE hs.1],rfl⟩
   have W3:=W2.same s3
   obtain⟨db,hb⟩:=id W3.bank
   have W4:=W3.replace (k:=k.toNat) (t':=⟨s.toNat,s.toNat,0,false⟩) ⋯ (Io W2 ny) ⟨dy,hy⟩ (by show s.toNat<18446744073709551616;omega)
   refine aM _ rfl b _ db _ _ rfl hb T.aQ.cl (T.aQ.no _ ()) rfl (bQ _ rfl l _ _ k.toNat rfl rfl W3.lst (qo ⋯ (by rw [aD,W3.len];omega)) ?_)
   rw [←yy]
   exact⟨bC,aF kk W4 hd2 ((ki2.trans (KI.same s3)).trans (W3.kiSet _)) es⟩
theorem tM (l:List Nat):(nats l).length=l.length:=by unfold nats;rw [aD]
theorem uZ {t:Stream} (h:t.state<Vbdeab.P):∀n,(Vbdeab.raws n t).1.state<Vbdeab.P
 | 0=>by rw [Ch.dC];exact h
 | n+1=>by rw [Ch.fW,xP];exact i6 _ Lc.Dq
def zF (T:Tx K mg):Sp:=di T (fun d c rest=>∃k n,d=k::n::rest∧c= .raws k n)
theorem KM (T:Tx K mg):dO P w base T.xb 3 (zF T):=by
 refine T.xb.okA mf ?_
 rintro _ A _ s H _ Q E hr
 refine jv ?_
 rintro G b r l a as S ns pos c rest rfl W U1 kk
 refine rB ?_ U1
 rintro k n hd rfl
 refine⟨_,(ac (aZ 2 mf.nd (eO (pv 1) T.au (ah T) hr))
   (ac (aZ 3 mf.nd (eO (pv 1) T.au (ah T) hr))
   (ac (aT (aV (aS (bj T.bB (a6 T) hr (ab (pv 2) ad)))) (ae (aj (aI (ab (fk T.bc) ad)))) aG)
   (ac (aT (aV (aS (bj T.gU (gD T) hr (ab (pv 3) ad)))) (ae (aj (aI (ab (fk T.fG) ad)))) aG)
   (ac (aZ 4 mf.nd (ip (ao (pv 0) rfl) (pv 2)))
   (ae (aj (aB fe (aI (ab am (ab (pv 3) ad))) (j9 (own:= [("i",5)]) rfl mf.nd (cu rfl T.dk (ab (pv 3) ad)) (ci (N:= ["bank","reader","k","n","stream","i"]) (sc:=ag Ci) (by decide+kernel)) (fun _ _ _ _ _=>(kZ 5 mf.nd)) (fun _ _ _ _ _=>dS) (fun _ _ _ _ _=>(eO (pv 4) T.bL (bX T) hr))))))))))),?_⟩
 have W0:=W;have ki0:=KI.refl H;have hd0:=hd
 refine aN W0 hd0 ki0 rfl fun H1 W1 hd1 ki1=>?_
 refine aN W1 hd1 ki1 rfl fun H2 W2 hd2 ki2=>?_
 have es:=La S k n
 refine bd _ rfl k rfl _ rfl (aX (fun h1=>?_) (fun h1=>?_))
 ·rw [iU (eG h1)] at es
  exact⟨bC,aF kk W2 hd2 ki2 es⟩
 ·have hk:=cj h1
  refine bd _ rfl n rfl _ rfl (aX (fun h2=>?_) (fun h2=>?_))
  ·rw [iV (e:= -3) hk (by rw [cx,if_pos (dP (eG h2))])] at es
   exact⟨bC,aF kk W2 hd2 ki2 es⟩
  ·have hn:=cj h2
   refine io (fun x t hx ht est hst hlt=>?_) (W2.sGet (k:=k.toNat) ⋯)
   rw [mD (r:=((Vbdeab.raws n.toNat t).1,shownRow (nats (Vbdeab.raws n.toNat t).2))) hk (by rw [est,cx,aE hn,if_neg ()])] at es
   obtain⟨db,hb⟩:=id W2.bank
   obtain⟨dx,hxo⟩:=id hst
   refine aM _ rfl b _ db _ _ rfl hb T.aQ.cl (T.aQ.no _ ()) rfl (bQ _ rfl l _ _ _ rfl rfl (a5.of W2.lst) (Kp hk.1 hx) ?_)
   refine df _ rfl rm fun p hp=>?_
   have nxp:x≠p:=aw hxo hp
   refine sY _ rfl n rfl ⋯ ⋯ fun D hD=>?_
   have npD0:p≠D:=aw af hD
   refine gA (n:=n.toNat) (fun i H'=>H' D=some (.lst ((nats (Vbdeab.raws i t).2).map V.int))∧H' p=some (.lst [.int 0,.int n])∧bU T H' x (Vbdeab.raws i t).1∧∀c o,H2 c=some o→c≠x→H' c=some o) ?_ ?_ ?_
   ·have nxD:x≠D:=aw (by rw [ak nxp];exact hxo) hD
    have npD:p≠D:=aw af hD
    refine b8 ?_ ?_ ⟨dx,?_⟩ fun c o e _=>?_
    ·rw [af,Ch.dC]
     rfl
    ·rw [ak npD,af]
    ·rw [ak nxD,ak nxp,Ch.dC]
     exact hxo
    ·have ncp:c≠p:=aw e hp
     rw [ak (aw (by rw [ak ncp];exact e) hD),ak ncp]
     exact e
   ·rintro i H3 hi
    refine nl fun hD3 hp3 U1 kp3=>?_
    obtain⟨d3,hx3⟩:=U1
    refine⟨rfl,(cP _ rfl x d3 _ rfl hx3 rfl (bV x _ rfl ⟨d3,hx3⟩ fun H4 ⟨d4,hx4⟩ kp4=>?_))⟩
    have nDx:D≠x:=bg hD3 hx3 (by intro z;cases z)
    have npx:p≠x:=bg hp3 hx3 (by intro z;cases z)
    have nxD:x≠D:=Ne.symm nDx
    have hD4:=kp4 _ _ hD3 nDx
    refine df _ hD4 (by rw [aD,tM,Ch.gF];show i<2 ^ 24;omega) (b8 ?_ ?_ ⟨d4,?_⟩ fun c o e nc=>?_)
    ·rw [af,Ch.fW]
     unfold nats
     rw [dB,dB]
     rfl
    ·rw [ak npD0]
     exact kp4 _ _ hp3 npx
    ·rw [ak nxD,Ch.fW]
     exact hx4
    ·have ncD:c≠D:=fun q=>by
      have ncp:c≠p:=aw e hp
      rw [q] at e
      have z:bT H2 p (.lst [.int 0,.int n]) D=some o:=by rw [ak (by rw [←q];exact ncp)];exact e
      rw [hD] at z
      cases z
     rw [ak ncD]
     exact kp4 _ _ (kp3 _ _ e nc) nc
   ·rintro H3
    refine nl fun hD3 hp3 hx3 kp3=>?_
    have hlen:(nats (Vbdeab.raws n.toNat t).2).length=n.toNat:=by rw [tM,Ch.gF]
    refine j5 p D _ _ rfl rfl hp3 hD3 (by rw [aD,hlen];show 2+n.toNat≤2 ^ 24;omega) ?_
    have W3:=W2.stream hx hst hx3 kp3 (uZ hlt _)
    have e2:(0:Int)::shownRow (nats (Vbdeab.raws n.toNat t).2)=0::n::nats (Vbdeab.raws n.toNat t).2:=by
     unfold shownRow
     rw [hlen,cE hn.1]
    rw [e2] at es
    exact aF kk W3 hd2 (ki2.trans (KI.keep1 kp3 hxo)) es
theorem Gs (t:Stream) (steps:Int):(qt t steps).state<Vbdeab.P:=Lc.EZ _ _
theorem BP (t:Stream) {n:Nat} (h:n<Vbdeab.P):qt t (n:Int)=t.moved n:=by
 unfold qt Stream.moved
 rw [Lc.Bs h]
 have e:((n:Int)%18446744073709551616).toNat=n:=by
  have:n<18446744073709551616:=h
  omega
 rw [e]
theorem Ij (t:Stream) {n:Int} (h:0≤n∧n≤18446744073709551615):qt t (-n)={t with state:=Vbdeab.back n.toNat t.state,count:=t.count - n}:=by
 unfold qt Vbdeab.back
 have e:((-n)%18446744073709551616).toNat=(Vbdeab.P - n.toNat%Vbdeab.P)%Vbdeab.P:=by
  have:Vbdeab.P=18446744073709551616:=rfl
  rw [this]
  omega
 rw [e,Lc.Bs (i6 _ Lc.Dq),Int.sub_eq_add_neg]
def IJ (T:Tx K mg):Sp:=fun vs H Q _=>∃(G:Gh) (b r l a:Addr) (as:List Addr) (S:State) (ns:List Int) (pos:Nat) (k n steps:Int),vs= [.ref b,.int k,.int n,.int steps]∧Wd G T H b r l a as S ns pos∧∀(H':Hp) (p:Addr) (S':State) (zs:List Int),(S',zs)=(if decide (0≤k∧k≤63)=false then(S,[-1]) else if decide (0≤n∧n≤18446744073709551615)=false then(S,[-2]) else(S.put k.toNat (qt (S.stream k.toNat) steps),[0]))→Wd G T H' b r l a as S' ns pos→H' p=some (.lst (zs.map V.int))→KI H H'→NF H p→Q (.ref p) H'
theorem BZ (T:Tx K mg):dO P w base T.Bw 6 (IJ T):=by
 refine T.Bw.okA ID ?_
 rintro _ A _ s H _ Q E hr
 refine Bf fun G b=>?_
 refine lC fun r l a as S ns=>?_
 refine Ja ?_
 rintro pos k n steps rfl W kk
 refine⟨_,(ac (aT (aV (aS (bj T.bB (a6 T) hr (ab (pv 1) ad)))) (ae (aj (aI (ab (fk T.bc) ad)))) aG)
   (ac (aT (aV (aS (bj T.gW (fV T) hr (ab (pv 2) ad)))) (ae (aj (aI (ab (fk T.iN) ad)))) aG)
   (ac (gw (zN (ip (ao (pv 0) rfl) (pv 1)) T.k7 (oY T) hr (ab (pv 3) ad)))
   (ae (aj (aI (ab am ad))))))),?_⟩
 refine bd _ rfl k rfl _ rfl (aX (fun h1=>?_) (fun h1=>?_))
 ·rw [if_pos (dP (eG h1))] at kk
  exact⟨bC,fun p hp=>kk _ p S [-1] rfl (W.same (aC.laid hp)) af (KI.same (aC.laid hp)) ((KI.refl H).nf hp)⟩
 ·have hk:=cj h1
  rw [aE hk,if_neg ()] at kk
  refine bd _ rfl n rfl _ rfl (aX (fun h2=>?_) (fun h2=>?_))
  ·rw [if_pos (dP (eG h2))] at kk
   exact⟨bC,fun p hp=>kk _ p S [-2] rfl (W.same (aC.laid hp)) af (KI.same (aC.laid hp)) ((KI.refl H).nf hp)⟩
  ·have hn:=cj h2
   rw [aE hn,if_neg ()] at kk
   refine io (fun x t hx ht est hst hlt=>?_) (W.sGet (k:=k.toNat) ⋯)
   rw [est] at kk
   obtain⟨db,hb⟩:=id W.bank
   obtain⟨dx,hxo⟩:=id hst
   refine aM _ rfl b _ db _ _ rfl hb T.aQ.cl (T.aQ.no _ ()) rfl (bQ _ rfl l _ _ _ rfl rfl (a5.of W.lst) (Kp hk.1 hx) (h9 x dx _ rfl hxo (dt rfl _ rfl (h9 x t steps rfl hst fun H1 hs1 kp1=>?_))))
   have W1:=W.stream hx hst hs1 kp1 (Gs t steps)
   exact⟨bC,fun p hp=>kk _ p _ [0] rfl (W1.same (aC.laid hp)) af ((KI.keep1 kp1 hxo).trans (KI.same (aC.laid hp))) ((KI.keep1 kp1 hxo).nf hp)⟩
def zI (T:Tx K mg):Sp:=di T (fun d c rest=>∃k n,d=k::n::rest∧c= .skip k n)
theorem KO (T:Tx K mg):dO P w base T.xf 7 (zI T):=by
 refine T.xf.okA zk ?_
 rintro _ A _ s H _ Q E hr
 refine jv ?_
 rintro G b r l a as S ns pos c rest rfl W U1 kk
 refine rB ?_ U1
 rintro k n hd rfl
 refine⟨_,(ac (aZ 2 zk.nd (eO (pv 1) T.au (ah T) hr))
   (ac (aZ 3 zk.nd (eO (pv 1) T.au (ah T) hr))
   (ae (aj (bj T.Bw (BZ T) hr (ab (pv 0) (ab (pv 2) (ab (pv 3) (ab (pv 3) ad))))))))),?_⟩
 have W0:=W;have ki0:=KI.refl H;have hd0:=hd
 refine aN W0 hd0 ki0 rfl fun H1 W1 hd1 ki1=>?_
 refine aN W1 hd1 ki1 rfl fun H2 W2 hd2 ki2=>?_
 have es:=Ld S k n
 refine bd _ rfl _ rfl _ rfl (fB _ rfl G b (wQ r l a as S ns _ k (bV n n rfl W2 fun H3 p S3 zs e3 W3 hp ki3 nf3=>?_)))
 have e4:Vbdeab.step S (.skip k n)=(S3,zs):=by
  rw [e3,es]
  by_cases hk:0≤k∧k≤63
  ·rw [aE hk,if_neg ()]
   by_cases hn:0≤n∧n≤18446744073709551615
   ·rw [aE hn,if_neg ()]
    refine(mD (r:=((S.stream k.toNat).moved n.toNat,[])) hk (by rw [fh,aE hn,if_neg ()])).trans ?_
    have h:=BP (S.stream k.toNat) (n:=n.toNat) (by show n.toNat<18446744073709551616;omega)
    rw [cE hn.1] at h
    rw [h]
   ·rw [br hn,if_pos rfl]
    exact iV hk (by rw [fh,br hn,if_pos rfl])
  ·rw [br hk,if_pos rfl]
   exact iU hk
 rw [e4] at kk
 exact kk H3 p as _ W3 hd2 hp (ki2.trans ki3) fun x xs q=>nf3 x xs (ki2 x xs q)
def zw (T:Tx K mg):Sp:=di T (fun d c rest=>∃k n,d=k::n::rest∧c= .back k n)
theorem KC (T:Tx K mg):dO P w base T.wY 7 (zw T):=by
 refine T.wY.okA zg ?_
 rintro _ A _ s H _ Q E hr
 refine jv ?_
 rintro G b r l a as S ns pos c rest rfl W U1 kk
 refine rB ?_ U1
 rintro k n hd rfl
 refine⟨_,(ac (aZ 2 zg.nd (eO (pv 1) T.au (ah T) hr))
   (ac (aZ 3 zg.nd (eO (pv 1) T.au (ah T) hr))
   (ae (aj (bj T.Bw (BZ T) hr (ab (pv 0) (ab (pv 2) (ab (pv 3) (ab (JJ FH (pv 3)) ad))))))))),?_⟩
 have W0:=W;have ki0:=KI.refl H;have hd0:=hd
 refine aN W0 hd0 ki0 rfl fun H1 W1 hd1 ki1=>?_
 refine aN W1 hd1 ki1 rfl fun H2 W2 hd2 ki2=>?_
 have es:=K3 S k n
 refine DQ _ rfl _ rfl _ rfl _ rfl _ rfl G b (wQ r l a as S ns _ k (bV n (-n) rfl W2 fun H3 p S3 zs e3 W3 hp ki3 nf3=>?_))
 have e4:Vbdeab.step S (.back k n)=(S3,zs):=by
  rw [e3,es]
  by_cases hk:0≤k∧k≤63
  ·rw [aE hk,if_neg ()]
   by_cases hn:0≤n∧n≤18446744073709551615
   ·rw [aE hn,if_neg (),Ij _ hn]
    exact mD (r:=({S.stream k.toNat with state:=Vbdeab.back n.toNat (S.stream k.toNat).state,count:=(S.stream k.toNat).count - n},[])) hk (by rw [fh,aE hn,if_neg ()])
   ·rw [br hn,if_pos rfl]
    exact iV hk (by rw [fh,br hn,if_pos rfl])
  ·rw [br hk,if_pos rfl]
   exact iU hk
 rw [e4] at kk
 exact kk H3 p as _ W3 hd2 hp (ki2.trans ki3) fun x xs q=>nf3 x xs (ki2 x xs q)
def uu (T:Tx K mg):Sp:=di T (fun d c rest=>∃k n,d=k::n::rest∧c= .mirror k n)
theorem GF (T:Tx K mg):dO P w base T.m8 3 (uu T):=by
 refine T.m8.okA nX ?_
 rintro _ A _ s H _ Q E hr
 refine jv ?_
 rintro G b r l a as S ns pos c rest rfl W U1 kk
 refine rB ?_ U1
 rintro k n hd rfl
 refine⟨_,(ac (aZ 2 nX.nd (eO (pv 1) T.au (ah T) hr))
   (ac (aZ 3 nX.nd (eO (pv 1) T.au (ah T) hr))
   (ac (aT (aV (aS (bj T.bB (a6 T) hr (ab (pv 2) ad)))) (ae (aj (aI (ab (fk T.bc) ad)))) aG)
   (ac (aT (aV (aS (bj T.bW (a8 T) hr (ab (pv 3) (ab am (ab am ad)))))) (ae (aj (aI (ab (fk T.Dn) ad)))) aG)
   (ac (aZ 4 nX.nd (ip (ao (pv 0) rfl) (pv 2)))
   (ac (cv (pv 4) (pv 3) rfl)
   (ae (aj (aI (ab am ad)))))))))),?_⟩
 have W0:=W;have ki0:=KI.refl H;have hd0:=hd
 refine aN W0 hd0 ki0 rfl fun H1 W1 hd1 ki1=>?_
 refine aN W1 hd1 ki1 rfl fun H2 W2 hd2 ki2=>?_
 have es:=Hl S k n
 refine bd _ rfl k rfl _ rfl (aX (fun h1=>?_) (fun h1=>?_))
 ·rw [iU (eG h1)] at es
  exact⟨bC,aF kk W2 hd2 ki2 es⟩
 ·have hk:=cj h1
  refine fB _ rfl n 0 (bD 1 rfl _ rfl (aX (fun h2=>?_) (fun h2=>?_)))
  ·rw [iV (e:= -4) hk (by rw [cx,if_pos (dP (eG h2))])] at es
   exact⟨bC,aF kk W2 hd2 ki2 es⟩
  ·have hn:=cj h2
   refine io (fun x t hx ht est hst hlt=>?_) (W2.sGet (k:=k.toNat) ⋯)
   rw [mD (r:=({t with mirror:=decide (n=1)},[])) hk (by rw [est,cx,aE hn,if_neg ()])] at es
   obtain⟨db,hb⟩:=id W2.bank
   obtain⟨dx,hxo⟩:=id hst
   refine aM _ rfl b _ db _ _ rfl hb T.aQ.cl (T.aQ.no _ ()) rfl (bQ _ rfl l _ _ _ rfl rfl (a5.of W2.lst) (Kp hk.1 hx) ?_)
   refine pP _ rfl _ rfl x _ dx _ rfl hxo T.aK.cl (T.aK.no _ ()) (by show 4<1000;decide) ?_
   have kp3:iE H2 (bT H2 x (.ins T.aK.C dx (lu "mirror" (.int n) (sf t)))) x:=fun c o e nc=>by rw [ak nc];exact e
   have em:lu "mirror" (.int n) (sf t)=sf {t with mirror:=decide (n=1)}:=by
    have:Pi (decide (n=1))=n:=by
     unfold Pi
     by_cases q:n=1
     ·rw [if_pos (aE q),q]
     ·rw [if_neg (by rw [br q];decide)]
      omega
    have e1:sf {t with mirror:=decide (n=1)}=lu "mirror" (.int (Pi (decide (n=1)))) (sf t):=rfl
    rw [e1,this]
   have W3:=W2.stream (t':={t with mirror:=decide (n=1)}) hx hst ⟨dx,by rw [af,em]⟩ kp3 hlt
   exact⟨bC,aF kk W3 hd2 (ki2.trans (KI.keep1 kp3 hxo)) es⟩
def wM (T:Tx K mg):Sp:=di T (fun d c rest=>∃k,d=k::rest∧c= .where_ k)
theorem Iw (T:Tx K mg):dO P w base T.rP 3 (wM T):=by
 refine T.rP.okA wx ?_
 rintro _ A _ s H _ Q E hr
 refine jv ?_
 rintro G b r l a as S ns pos c rest rfl W U1 kk
 refine a4 ?_ U1
 rintro k hd rfl
 refine⟨_,(ac (aZ 2 wx.nd (eO (pv 1) T.au (ah T) hr))
   (ac (aT (aV (aS (bj T.bB (a6 T) hr (ab (pv 2) ad)))) (ae (aj (aI (ab (fk T.bc) ad)))) aG)
   (ac (aZ 3 wx.nd (ip (ao (pv 0) rfl) (pv 2)))
   (ae (aj (aI (ab am (ab (ao (pv 3) rfl) (ab (ao (pv 3) rfl) (ab (ao (pv 3) rfl) (ab (ao (pv 3) rfl) ad))))))))))),?_⟩
 have W0:=W;have ki0:=KI.refl H;have hd0:=hd
 refine aN W0 hd0 ki0 rfl fun H1 W1 hd1 ki1=>?_
 have es:=IS S k
 refine bd _ rfl k rfl _ rfl (aX (fun h1=>?_) (fun h1=>?_))
 ·rw [iU (eG h1)] at es
  exact⟨bC,aF kk W1 hd1 ki1 es⟩
 ·have hk:=cj h1
  refine io (fun x t hx ht est hst hlt=>?_) (W1.sGet (k:=k.toNat) ⋯)
  rw [mD (r:=(t,[(t.state:Int),(t.seed:Int),t.count,if t.mirror=true then 1 else 0])) hk (by rw [est])] at es
  obtain⟨db,hb⟩:=id W1.bank
  obtain⟨dx,hxo⟩:=id hst
  refine aM _ rfl b _ db _ _ rfl hb T.aQ.cl (T.aQ.no _ ()) rfl (bQ _ rfl l _ _ _ rfl rfl (a5.of W1.lst) (Kp hk.1 hx) ?_)
  refine aM _ rfl x _ dx _ _ rfl hxo T.aK.cl (T.aK.no _ ()) rfl (aM _ rfl x _ dx _ _ rfl hxo T.aK.cl (T.aK.no _ ()) rfl (aM _ rfl x _ dx _ _ rfl hxo T.aK.cl (T.aK.no _ ()) rfl (aM _ rfl x _ dx _ _ rfl hxo T.aK.cl (T.aK.no _ ()) rfl ⟨(by show 5≤sizeLine;decide),?_⟩)))
  have W2:=W1.stream (t':=t) hx hst hst (fun c o e _=>e) hlt
  exact aF kk W2 hd1 ki1 es
def CL (T:Tx K mg):Sp:=di T (fun d c rest=>∃x y,d=x::y::rest∧c= .far x y)
theorem Mc (T:Tx K mg):dO P w base T.De 5 (CL T):=by
 refine T.De.okA Cu ?_
 rintro _ A _ s H _ Q E hr
 refine jv ?_
 rintro G b r l a as S ns pos c rest rfl W U1 kk
 refine rB ?_ U1
 rintro x y hd rfl
 refine⟨_,(ac (aZ 2 Cu.nd (eO (pv 1) T.au (ah T) hr))
   (ac (aZ 3 Cu.nd (eO (pv 1) T.au (ah T) hr))
   (ac (aT (lr (ic (aV (aS (bj T.gW (fV T) hr (ab (pv 2) ad)))) (ik (aV (aS (bj T.gW (fV T) hr (ab (pv 3) ad))))))) (ae (aj (aI (ab (fk T.iN) ad)))) aG)
   (ae (aj (aI (ab am (ab (bj T.rH (vC T) hr (ab (pv 2) (ab (pv 3) ad))) ad)))))))),?_⟩
 have W0:=W;have ki0:=KI.refl H;have hd0:=hd
 refine aN W0 hd0 ki0 rfl fun H1 W1 hd1 ki1=>?_
 refine aN W1 hd1 ki1 rfl fun H2 W2 hd2 ki2=>?_
 have es:=MD S x y
 rw [fh,fh] at es
 refine bd _ rfl x rfl _ rfl (aX (fun h1=>?_) (fun h1=>?_))
 ·rw [if_pos (Or.inl (dP (eG h1)))] at es
  refine jC ?_
  exact⟨bC,aF kk W2 hd2 ki2 es⟩
 ·have hx:=cj h1
  refine bd _ rfl y rfl _ rfl (aX (fun h2=>?_) (fun h2=>?_))
  ·rw [if_pos (Or.inr (dP (eG h2)))] at es
   exact⟨bC,aF kk W2 hd2 ki2 es⟩
  ·have hy:=cj h2
   rw [aE hx,aE hy,if_neg ()] at es
   have ex:=cE hx.1
   have ey:=cE hy.1
   refine bJ _ rfl (eu _ rfl x.toNat y.toNat (by rw [ex,ey];rfl) (by show x.toNat<18446744073709551616;omega) (by show y.toNat<18446744073709551616;omega) fun H3 s3=>?_)
   exact⟨rm,aF (zs:= [0,((Vbdeab.far x.toNat y.toNat:Nat):Int)]) kk (W2.same s3) hd2 (ki2.trans (KI.same s3)) es⟩
def zA (T:Tx K mg):Sp:=di T (fun d c rest=>∃k y,d=k::y::rest∧c= .goto k y)
theorem KJ (T:Tx K mg):dO P w base T.w8 6 (zA T):=by
 refine T.w8.okA pE ?_
 rintro _ A _ s H _ Q E hr
 refine jv ?_
 rintro G b r l a as S ns pos c rest rfl W U1 kk
 refine rB ?_ U1
 rintro k y hd rfl
 refine⟨_,(ac (aZ 2 pE.nd (eO (pv 1) T.au (ah T) hr))
   (ac (aZ 3 pE.nd (eO (pv 1) T.au (ah T) hr))
   (ac (aT (aV (aS (bj T.bB (a6 T) hr (ab (pv 2) ad)))) (ae (aj (aI (ab (fk T.bc) ad)))) aG)
   (ac (aT (aV (aS (bj T.gW (fV T) hr (ab (pv 3) ad)))) (ae (aj (aI (ab (fk T.iN) ad)))) aG)
   (ac (aZ 4 pE.nd (ip (ao (pv 0) rfl) (pv 2)))
   (ac (aZ 5 pE.nd (bj T.rH (vC T) hr (ab (ao (pv 4) rfl) (ab (pv 3) ad))))
   (ac (gw (zN (pv 4) T.k7 (oY T) hr (ab (pv 5) ad)))
   (ae (aj (aI (ab am (ab (pv 5) ad)))))))))))),?_⟩
 have W0:=W;have ki0:=KI.refl H;have hd0:=hd
 refine aN W0 hd0 ki0 rfl fun H1 W1 hd1 ki1=>?_
 refine aN W1 hd1 ki1 rfl fun H2 W2 hd2 ki2=>?_
 have es:=K7 S k y
 refine bd _ rfl k rfl _ rfl (aX (fun h1=>?_) (fun h1=>?_))
 ·rw [iU (eG h1)] at es
  exact⟨bC,aF kk W2 hd2 ki2 es⟩
 ·have hk:=cj h1
  refine bd _ rfl y rfl _ rfl (aX (fun h2=>?_) (fun h2=>?_))
  ·rw [iV (e:= -2) hk (by rw [fh,if_pos (dP (eG h2))])] at es
   exact⟨bC,aF kk W2 hd2 ki2 es⟩
  ·have hn:=cj h2
   refine io (fun x t hx ht est hst hlt=>?_) (W2.sGet (k:=k.toNat) ⋯)
   rw [mD (r:=(t.moved (Vbdeab.far t.state y.toNat),[(Vbdeab.far t.state y.toNat:Int)])) hk (by rw [est,fh,aE hn,if_neg ()])] at es
   obtain⟨db,hb⟩:=id W2.bank
   obtain⟨dx,hxo⟩:=id hst
   have ey:=cE hn.1
   refine aM _ rfl b _ db _ _ rfl hb T.aQ.cl (T.aQ.no _ ()) rfl (bQ _ rfl l _ _ _ rfl rfl (a5.of W2.lst) (Kp hk.1 hx) ?_)
   refine aM _ rfl x _ dx _ _ rfl hxo T.aK.cl (T.aK.no _ ()) rfl (eu _ rfl t.state y.toNat (by rw [ey];rfl) hlt (by show y.toNat<18446744073709551616;omega) fun H3 s3=>?_)
   have W3:=W2.same s3
   refine cP _ rfl x dx _ rfl (s3 _ _ hxo) rfl (bJ _ rfl (h9 x t _ rfl ⟨dx,s3 _ _ hxo⟩ fun H4 hs4 kp4=>?_))
   have W4:=W3.stream hx ⟨dx,s3 _ _ hxo⟩ hs4 kp4 (Gs t _)
   rw [BP t (Lc.OB t.state y.toNat)] at W4
   exact df _ rfl rm (aF (zs:= [0,(Vbdeab.far t.state y.toNat:Int)]) kk W4 hd2 ((ki2.trans (KI.same s3)).trans (KI.keep1 kp4 (s3 _ _ hxo))) es)
def zy (T:Tx K mg):Sp:=di T (fun d c rest=>∃k j,d=k::j::rest∧c= .copy k j)
theorem KF (T:Tx K mg):dO P w base T.w6 4 (zy T):=by
 refine T.w6.okA zi ?_
 rintro _ A _ s H _ Q E hr
 refine jv ?_
 rintro G b r l a as S ns pos c rest rfl W U1 kk
 refine rB ?_ U1
 rintro k j hd rfl
 refine⟨_,(ac (aZ 2 zi.nd (eO (pv 1) T.au (ah T) hr))
   (ac (aZ 3 zi.nd (eO (pv 1) T.au (ah T) hr))
   (ac (aT (lr (ic (aV (aS (bj T.bB (a6 T) hr (ab (pv 2) ad)))) (ik (aV (aS (bj T.bB (a6 T) hr (ab (pv 3) ad))))))) (ae (aj (aI (ab (fk T.bc) ad)))) aG)
   (ac (qK (eO (ip (ao (pv 0) rfl) (pv 3)) T.oJ (yQ T) hr) (qH (ao (pv 0) rfl) (pv 2) iJ))
   (ae (aj (aI (ab am ad)))))))),?_⟩
 have W0:=W;have ki0:=KI.refl H;have hd0:=hd
 refine aN W0 hd0 ki0 rfl fun H1 W1 hd1 ki1=>?_
 refine aN W1 hd1 ki1 rfl fun H2 W2 hd2 ki2=>?_
 have es:=K5 S k j
 rw [cG,cG] at es
 refine bd _ rfl k rfl _ rfl (aX (fun h1=>?_) (fun h1=>?_))
 ·rw [if_pos (Or.inl (dP (eG h1)))] at es
  refine jC ?_
  exact⟨bC,aF kk W2 hd2 ki2 es⟩
 ·have hk:=cj h1
  refine bd _ rfl j rfl _ rfl (aX (fun h2=>?_) (fun h2=>?_))
  ·rw [if_pos (Or.inr (dP (eG h2)))] at es
   exact⟨bC,aF kk W2 hd2 ki2 es⟩
  ·have hj:=cj h2
   rw [aE hk,aE hj,if_neg ()] at es
   refine io (fun x t hx ht est hst hlt=>?_) (W2.sGet (k:=j.toNat) ⋯)
   rw [est] at es
   obtain⟨db,hb⟩:=id W2.bank
   obtain⟨dx,hxo⟩:=id hst
   refine aM _ rfl b _ db _ _ rfl hb T.aQ.cl (T.aQ.no _ ()) rfl (bQ _ rfl l _ _ _ rfl rfl (a5.of W2.lst) (Kp hj.1 hx) ⟨x,(jt dx _ rfl hxo rfl x t rfl hst fun z H3 hz s3 nz=>?_)⟩)
   have W3:=W2.same s3
   obtain⟨db3,hb3⟩:=id W3.bank
   have W4:=W3.replace (k:=k.toNat) (t':=t) ⋯ (Io W2 nz) hz hlt
   refine aM _ rfl b _ db3 _ _ rfl hb3 T.aQ.cl (T.aQ.no _ ()) rfl (bQ _ rfl l _ _ k.toNat rfl rfl W3.lst (qo ⋯ (by rw [aD,W3.len];omega)) ?_)
   rw [←yy]
   exact⟨bC,aF kk W4 hd2 ((ki2.trans (KI.same s3)).trans (W3.kiSet _)) es⟩
theorem DO {S:State} {k j:Nat} {t:Stream} (h:j≠k):(S.put j t).stream k=S.stream k:=by
 unfold State.put State.stream
 simp only [e8]
 rw [AA h]
theorem At (k g j:Nat):∀(l:List Nat) (S:State),spaced k g (l++ [j]) S=(spaced k g l S).put (k+j) ⟨Vbdeab.skip (j*g%Vbdeab.P) ((spaced k g l S).stream k).state,Vbdeab.skip (j*g%Vbdeab.P) ((spaced k g l S).stream k).state,0,false⟩
 | [],S=>by rw [HJ,spaced,spaced,spaced]
 | i::l,S=>by rw [HD,spaced,At k g j l,spaced]
theorem As (k g:Nat):∀(l:List Nat) (S:State),(∀i∈l,1≤i)→(spaced k g l S).stream k=S.stream k
 | [],S,_=>by rw [spaced]
 | i::l,S,h=>by
  rw [spaced,As k g l _ fun j hj=>h j (dX _ hj)]
  exact DO (by have:=h i fD;omega)
theorem IB (i:Nat):(List.range (i+2)).drop 1=(List.range (i+1)).drop 1++ [i+1]:=by
 rw [List.range_succ,List.drop_append_of_le_length (by rw [ft];omega)]
theorem My (i:Nat):∀j∈(List.range (i+1)).drop 1,1≤j:=fun j hj=>by
 rw [List.range_eq_range',List.drop_range'] at hj
 have:=List.mem_range'.mp hj
 omega
theorem Kx (g i x:Nat):Lc.lG (Lc.pw g) (Lc.lG (Lc.pw (i*g)) x)=Vbdeab.skip ((i+1)*g%Vbdeab.P) x:=by
 rw [Lc.Bs (i6 _ Lc.Dq),Lc.OZ,AD,oH,Lc.ow,Lc.F7]
theorem IQ (S:State) (k n g:Int):Vbdeab.step S (.space k n g)=if streamOk k=false then(S,[-1]) else if within n 1 64=false∨64<k+n then(S,[-3]) else if stateOk g=false then(S,[-2]) else
   (spaced k.toNat g.toNat ((List.range n.toNat).drop 1) S,[0]):=by rw [Vbdeab.step]
def wJ (T:Tx K mg):Sp:=di T (fun d c rest=>∃k n g,d=k::n::g::rest∧c= .space k n g)
theorem Iu (T:Tx K mg):dO P w base T.rN 5 (wJ T):=by
 refine T.rN.okA gO ?_
 rintro _ A _ s H _ Q E hr
 refine jv ?_
 rintro G b r l a as S ns pos c rest rfl W U1 kk
 refine tq ?_ U1
 rintro k n g hd rfl
 refine⟨_,(ac (aZ 2 gO.nd (eO (pv 1) T.au (ah T) hr))
   (ac (aZ 3 gO.nd (eO (pv 1) T.au (ah T) hr))
   (ac (aZ 4 gO.nd (eO (pv 1) T.au (ah T) hr))
   (ac (aT (aV (aS (bj T.bB (a6 T) hr (ab (pv 2) ad)))) (ae (aj (aI (ab (fk T.bc) ad)))) aG)
   (ac (aT (aV (aS (bj T.bW (a8 T) hr (ab (pv 3) (ab am (ab (aB cb (fk T.zW) (pv 2)) ad)))))) (ae (aj (aI (ab (fk T.fG) ad)))) aG)
   (ac (aT (aV (aS (bj T.gW (fV T) hr (ab (pv 4) ad)))) (ae (aj (aI (ab (fk T.iN) ad)))) aG)
   (ac (aZ 5 gO.nd (bj T.ve (xF T) hr (ab (pv 4) ad)))
   (ac (aZ 6 gO.nd (ao (ip (ao (pv 0) rfl) (pv 2)) rfl))
   (ac (eh cM rfl (KU rfl T.dk (ab (aB b7 (pv 2) am) (ab (aB b7 (pv 2) (pv 3)) ad))) (kZ 7 gO.nd) (ac (aZ 6 gO.nd (zN (pv 5) T.fE (gu T) hr (ab (pv 6) ad)))
   (ae (qK (Ax T.fq (gZ T) hr (ab (pv 6) ad)) (qH (ao (pv 0) rfl) (pv 7) iJ)))))
   (ae (aj (aI (ab am ad))))))))))))),?_⟩
 have W0:=W;have ki0:=KI.refl H;have hd0:=hd
 refine aN W0 hd0 ki0 rfl fun H1 W1 hd1 ki1=>?_
 refine aN W1 hd1 ki1 rfl fun H2 W2 hd2 ki2=>?_
 refine aN W2 hd2 ki2 rfl fun H3 W3 hd3 ki3=>?_
 have es:=IQ S k n g
 rw [cG,fh,cx] at es
 refine bd _ rfl k rfl _ rfl (aX (fun h1=>?_) (fun h1=>?_))
 ·rw [if_pos (dP (eG h1))] at es
  exact⟨bC,aF kk W3 hd3 ki3 es⟩
 ·have hk:=cj h1
  rw [aE hk,if_neg ()] at es
  refine eY _ rfl _ rfl _ _ rfl rfl (oE n 1 (bD (64 - k) rfl _ rfl (aX (fun h2=>?_) (fun h2=>?_))))
  ·have h2':=eG h2
   rw [if_pos (by by_cases q:1≤n∧n≤64;right;omega;left;exact br q)] at es
   exact⟨bC,aF kk W3 hd3 ki3 es⟩
  ·have hn:=cj h2
   rw [if_neg (by rw [aE (show 1≤n∧n≤64 by omega)];intro z;rcases z with z | z;cases z;omega)] at es
   refine bd _ rfl g rfl _ rfl (aX (fun h3=>?_) (fun h3=>?_))
   ·rw [if_pos (dP (eG h3))] at es
    exact⟨bC,aF kk W3 hd3 ki3 es⟩
   ·have hg:=cj h3
    rw [aE hg,if_neg ()] at es
    have eg:(g%18446744073709551616).toNat=g.toNat:=by omega
    refine bD _ rfl g rfl fun y H4 hy4 s4=>?_
    rw [eg] at hy4
    have W4:=W3.same s4
    refine io (fun x t hx ht est hst hlt=>?_) (W4.sGet (k:=k.toNat) ⋯)
    obtain⟨db,hb⟩:=id W4.bank
    obtain⟨dx,hxo⟩:=id hst
    refine aM _ rfl b _ db _ _ rfl hb T.aQ.cl (T.aQ.no _ ()) rfl (bQ _ rfl l _ _ _ rfl rfl (a5.of W4.lst) (Kp hk.1 hx) (iK x _ dx _ _ rfl hxo T.aK.cl (T.aK.no _ ()) rfl ?_))
    refine cy _ rfl _ _ rfl rfl (eY _ rfl _ rfl _ _ rfl rfl (bV _ _ rfl ⋯ (gY (lo:=k+1) (n:=(k+n - (k+1)).toNat) (fun i σ H'=>∃(v:Option V) (as':List Addr),σ= [some (.ref b),some (.ref r),some (.int k),some (.int n),some (.int g),some (.ref y),some (.int (Lc.lG (Lc.pw (i*g.toNat)) t.state:Nat)),v]∧pY T H' y (Lc.pw g.toNat)∧Wd G T H' b r l a as' (spaced k.toNat g.toNat ((List.range (i+1)).drop 1) S) ns (pos+1+1+1)∧KI H H') ?_ ?_ ?_)))
    ·refine bR none as ?_ hy4 ?_ (ki3.trans (KI.same s4))
     ·rw [Nat.zero_mul]
      have:Lc.lG (Lc.pw 0) t.state=t.state:=by
       unfold Lc.lG Lc.pw
       rw [oH,lW,rC hlt]
      rw [this]
      rfl
     ·have:(List.range (0+1)).drop 1= []:=rfl
      rw [this,spaced]
      exact W4
    ·rintro i σ H5 hi
     refine tp ?_
     rintro v as' rfl U1 W5 ki5
     obtain⟨dy,hy5⟩:=U1
     refine cP _ rfl y dy _ rfl hy5 rfl (cP _ rfl y _ _ rfl ⟨dy,hy5⟩ (Lc.mE _) ?_)
     refine⟨_,rfl,?_⟩
     intro z dz nz ndz _
     refine dh nz ndz (fun H6 hz s6=>?_) ⟨_,rfl,rfl⟩
     have W6:=W5.same s6
     obtain⟨db6,hb6⟩:=id W6.bank
     have W7:=W6.replace (k:=k.toNat+(i+1)) ⋯ (Io W5 nz) ⟨dz,hz⟩ (Lc.EZ _ _)
     refine aM _ rfl b _ db6 _ _ rfl hb6 T.aQ.cl (T.aQ.no _ ()) rfl (bQ _ rfl l _ _ (k.toNat+(i+1)) rfl rfl W6.lst (qo ⋯ (by rw [aD,W6.len];omega)) ?_)
     rw [←yy]
     have nyl:y≠l:=bg (s6 _ _ hy5) W6.lst (by intro q;cases q)
     have est5:((spaced k.toNat g.toNat ((List.range (i+1)).drop 1) S).stream k.toNat).state=t.state:=by rw [As _ _ _ _ (My i),est]
     have e7:Lc.lG (Lc.pw g.toNat) (Lc.lG (Lc.pw (i*g.toNat)) t.state)=Lc.lG (Lc.pw ((i+1)*g.toNat)) t.state:=by rw [←Lc.F7,←Lc.ow,AD,oH]
     refine bR (some (.int (k+1+(i:Int)))) (as'.set (k.toNat+(i+1)) z) ?_ ⟨dy,by rw [ak nyl];exact s6 _ _ hy5⟩ ?_ ((ki5.trans (KI.same s6)).trans (W6.kiSet _))
     ·rw [e7]
      rfl
     ·rw [IB,At,est5,←Kx]
      exact W7
    ·rintro σ H5
     refine tp ?_
     rintro v as' rfl _ W5 ki5
     have en:(k+n - (k+1)).toNat+1=n.toNat:=by omega
     rw [en] at W5
     exact⟨bC,aF kk W5 hd3 ki5 es⟩
theorem xQ {ns ws rest:List Int} {pos n:Nat} (h:ns.drop (pos+1)=ws++rest) (hg:ns[pos]?=some (n:Int)) (hl:ws.length=n):(ns.drop (pos+1)).take n=ws∧ns.drop (pos+1+n)=rest∧pos+1+n≤ns.length:=by
 subst hl
 refine⟨by rw [h,List.take_left],by rw [←List.drop_drop,h,List.drop_left],?_⟩
 have h1:=(cg.mp hg).1
 have h2:=cA List.length h
 rw [bZ,C9] at h2
 omega
theorem uX (z:Int):z.natAbs≤Vbdeab.BIG↔(-1000000000000000000≤z∧z≤1000000000000000000):=by
 have:Vbdeab.BIG=1000000000000000000:=rfl
 rw [this]
 omega
theorem IT (S:State) (k a b:Int):Vbdeab.step S (.whole k a b)=onStream S k fun t=>if a.natAbs≤Vbdeab.BIG∧b.natAbs≤Vbdeab.BIG∧a≤b then
   .ok ((Vbdeab.raw t).1,[a+(((Vbdeab.raw t).2*(b - a+1).toNat /Vbdeab.M:Nat):Int)]) else .error (-5):=by rw [Vbdeab.step]
theorem Hi (S:State) (k:Int) (ws:List Int):Vbdeab.step S (.choose k ws)=onStream S k fun t=>match weights ws with
  | none=> .error (-6)
  | some l=> .ok ((Vbdeab.raw t).1,[(chosen l (Vbdeab.raw t).2:Int)]):=by
 rw [Vbdeab.step]
 rfl
theorem FG (S:State) (k n:Int):Vbdeab.step S (.shuffle k n)=onStream S k fun t=>if within n 0 1000=false then .error (-3) else
   .ok ((Vbdeab.raws n.toNat t).1,shownRow (shuffled n.toNat (Vbdeab.raws n.toNat t).2 0 (ramp n.toNat))):=by rw [Vbdeab.step]
theorem Hn (S:State) (k n m:Int):Vbdeab.step S (.sample k n m)=onStream S k fun t=>if within n 0 1000=false then .error (-3) else if within m 0 n=false then .error (-7) else
   .ok ((Vbdeab.raws m.toNat t).1,shownRow ((shuffled n.toNat (Vbdeab.raws m.toNat t).2 0 (ramp n.toNat)).take m.toNat)):=by rw [Vbdeab.step]
def wN (T:Tx K mg):Sp:=di T (fun d c rest=>∃k u v,d=k::u::v::rest∧c= .whole k u v)
theorem Ix (T:Tx K mg):dO P w base T.rQ 3 (wN T):=by
 refine T.rQ.okA mQ ?_
 rintro _ A _ s H _ Q E hr
 refine jv ?_
 rintro G b r l a as S ns pos c rest rfl W U1 kk
 revert U1
 refine tq ?_
 rintro k u v hd rfl
 refine⟨_,(ac (aZ 2 mQ.nd (eO (pv 1) T.au (ah T) hr))
   (ac (aZ 3 mQ.nd (eO (pv 1) T.au (ah T) hr))
   (ac (aZ 4 mQ.nd (eO (pv 1) T.au (ah T) hr))
   (ac (aT (aV (aS (bj T.bB (a6 T) hr (ab (pv 2) ad)))) (ae (aj (aI (ab (fk T.bc) ad)))) aG)
   (ac (aT (lr (ic (aV (aS (bj T.gT (fU T) hr (ab (pv 3) ad)))) (ic (aV (aS (bj T.gT (fU T) hr (ab (pv 4) ad)))) (ik (aR vD (pv 3) (pv 4) (aY _)))))) (ae (aj (aI (ab (fk T.k8) ad)))) aG)
   (ac (aZ 5 mQ.nd (eO (ip (ao (pv 0) rfl) (pv 2)) T.bL (bX T) hr))
   (ae (aj (aI (ab am (ab (aB b7 (pv 3) (bj T.vf (xG T) hr (ab (pv 5) (ab (aB b7 (aB cb (pv 4) (pv 3)) am) ad)))) ad))))))))))),?_⟩
 have W0:=W;have ki0:=KI.refl H;have hd0:=hd
 refine aN W0 hd0 ki0 rfl fun H1 W1 hd1 ki1=>?_
 refine aN W1 hd1 ki1 rfl fun H2 W2 hd2 ki2=>?_
 refine aN W2 hd2 ki2 rfl fun H3 W3 hd3 ki3=>?_
 have es:=IT S k u v
 refine bd _ rfl k rfl _ rfl (aX (fun h1=>?_) (fun h1=>?_))
 ·rw [iU (eG h1)] at es
  exact⟨bC,aF kk W3 hd3 ki3 es⟩
 ·have hk:=cj h1
  have bad:¬(u.natAbs≤Vbdeab.BIG∧v.natAbs≤Vbdeab.BIG∧u≤v)→Vbdeab.step S (.whole k u v)=(S,[-5]):=fun q=>es.trans (iV hk (if_neg q))
  refine bd _ rfl u rfl _ rfl (aX (fun h2=>?_) (fun h2=>?_))
  ·have es:=bad fun q=>eG h2 ((uX _).mp q.1)
   refine jC ?_
   exact⟨bC,aF kk W3 hd3 ki3 es⟩
  ·refine bd _ rfl v rfl _ rfl (aX (fun h3=>?_) (fun h3=>?_))
   ·have es:=bad fun q=>eG h3 ((uX _).mp q.2.1)
    refine jC ?_
    exact⟨bC,aF kk W3 hd3 ki3 es⟩
   ·refine bJ _ rfl (lA _ rfl _ _ rfl rfl _ rfl (aX (fun h4=>?_) (fun h4=>?_)))
    ·have h4':v<u:=bn h4
     have es:=bad fun q=>by have:=q.2.2;omega
     exact⟨bC,aF kk W3 hd3 ki3 es⟩
    ·have h4':¬v<u:=fun z=>h4 (aE z)
     have good:u.natAbs≤Vbdeab.BIG∧v.natAbs≤Vbdeab.BIG∧u≤v:=⟨(uX _).mpr (cj h2),(uX _).mpr (cj h3),⋯⟩
     refine io (fun x t hx ht est hst hlt=>?_) (W3.sGet (k:=k.toNat) ⋯)
     rw [mD (r:=((Vbdeab.raw t).1,[u+(((Vbdeab.raw t).2*(v - u+1).toNat /Vbdeab.M:Nat):Int)])) hk (by rw [est];exact if_pos good)] at es
     obtain⟨db,hb⟩:=id W3.bank
     obtain⟨dx,hxo⟩:=id hst
     refine aM _ rfl b _ db _ _ rfl hb T.aQ.cl (T.aQ.no _ ()) rfl (bQ _ rfl l _ _ _ rfl rfl (a5.of W3.lst) (Kp hk.1 hx) ⟨x,(jt dx _ rfl hxo rfl x t rfl hst fun H4 hs4 kp4=>?_)⟩)
     have W4:=W3.stream hx hst hs4 kp4 (by rw [xP];exact i6 _ Lc.Dq)
     refine bD _ rfl _ rfl (eY _ rfl _ rfl _ _ rfl rfl (bV _ _ rfl rfl (bV _ _ rfl Ch.wq (bR _ _ rfl rfl rm ?_))))
     have e5:(((Vbdeab.raw t).2:Nat):Int)*(v - u+1) /4294967296=(((Vbdeab.raw t).2*(v - u+1).toNat /Vbdeab.M:Nat):Int):=by
      rw [C5,b9,cE ⋯]
      rfl
     have fin:=aF (zs:= [0,u+(((Vbdeab.raw t).2*(v - u+1).toNat /Vbdeab.M:Nat):Int)]) kk W4 hd3 (ki3.trans (KI.keep1 kp4 hxo)) es
     rw [←e5] at fin
     exact fin
def uq (T:Tx K mg):Sp:=di T (fun d c rest=>∃(k:Int) (n_ws:Nat) (ws:List Int),d=k::(n_ws:Int)::(ws++rest)∧ws.length=n_ws∧c= .choose k ws)
theorem GA (T:Tx K mg):dO P w base T.m4 3 (uq T):=by
 refine T.m4.okA nW ?_
 rintro _ A _ s H _ Q E hr
 refine jv ?_
 rintro G b r l a as S ns pos c rest rfl W U1 kk
 revert U1
 refine d7 ?_
 rintro k n_ws ws hd hl_ws rfl
 refine⟨_,(ac (aZ 2 nW.nd (eO (pv 1) T.au (ah T) hr))
   (ac (aZ 3 nW.nd (eO (pv 1) T.dj (dQ T) hr))
   (ac (aT (aV (aS (bj T.bB (a6 T) hr (ab (pv 2) ad)))) (ae (aj (aI (ab (fk T.bc) ad)))) aG)
   (ac (aT (aV (aS (bj T.iL (kF T) hr (ab (pv 3) ad)))) (ae (aj (aI (ab (fk T.lR) ad)))) aG)
   (ac (aZ 4 nW.nd (eO (ip (ao (pv 0) rfl) (pv 2)) T.bL (bX T) hr))
   (ae (aj (aI (ab am (ab (bj T.jX (nB T) hr (ab (pv 4) (ab (pv 3) ad))) ad)))))))))),?_⟩
 have W0:=W;have ki0:=KI.refl H;have hd0:=hd
 refine aN W0 hd0 ki0 rfl fun H1 W1 hd1 ki1=>?_
 obtain⟨dr1,hr1⟩:=id W1.rd
 obtain⟨g2,hq2⟩:=lg hd1
 refine gk (fun e2 hd2 le2=>?_) (xQ hq2 g2 hl_ws)
 refine cP _ rfl r dr1 _ rfl hr1 rfl (iK r a _ n_ws ns rfl ⟨dr1,hr1⟩ W1.sq g2 le2 fun H2 p_ws hr2 hp_ws kp2 np_ws=>?_)
 rw [e2] at hp_ws
 have W2:=W1.reader hr2 kp2;have ki2:=ki1.trans (KI.keep1 kp2 hr1);obtain⟨dr2,hr2⟩:=hr2
 have es:=Hi S k ws
 refine bd _ rfl k rfl _ rfl (aX (fun h1=>?_) (fun h1=>?_))
 ·rw [iU (eG h1)] at es
  exact⟨bC,aF kk W2 hd2 ki2 es⟩
 ·have hk:=cj h1
  refine lA _ rfl p_ws ws rfl (a5.of hp_ws) _ rfl (aX (fun h2=>?_) (fun h2=>?_))
  ·have hw:weights ws=none:=by
    cases e:weights ws with
    | none=>rfl
    | some z=>rw [e] at h2;cases h2
   rw [iV (e:= -6) hk (by rw [hw])] at es
   exact⟨bC,aF kk W2 hd2 ki2 es⟩
  ·have hw:(weights ws).isSome=true:=by
    cases e:(weights ws).isSome with
    | true=>rfl
    | false=>rw [e] at h2;exact absurd rfl h2
   refine gk (fun nn ew _=>?_) (jR hw)
   refine io (fun x t hx ht est hst hlt=>?_) (W2.sGet (k:=k.toNat) ⋯)
   rw [mD (r:=((Vbdeab.raw t).1,[(chosen (ws.map Int.toNat) (Vbdeab.raw t).2:Int)])) hk (by rw [est,ew])] at es
   obtain⟨db,hb⟩:=id W2.bank
   obtain⟨dx,hxo⟩:=id hst
   refine aM _ rfl b _ db _ _ rfl hb T.aQ.cl (T.aQ.no _ ()) rfl (bQ _ rfl l _ _ _ rfl rfl (a5.of W2.lst) (Kp hk.1 hx) ⟨x,(jt dx _ rfl hxo rfl x t rfl hst fun H4 hs4 kp4=>?_)⟩)
   have W4:=W2.stream hx hst hs4 kp4 (by rw [xP];exact i6 _ Lc.Dq)
   have ki4:=KI.keep1 kp4 hxo
   refine bJ _ rfl (cP _ rfl _ p_ws ws rfl Ch.wq (a5.of (ki4 _ _ hp_ws)) (fi hw rm ?_))
   exact aF (zs:= [0,(chosen (ws.map Int.toNat) (Vbdeab.raw t).2:Int)]) kk W4 hd2 (ki2.trans ki4) es
theorem Mx (n:Nat):xO n=(ramp n).map V.int:=by
 unfold xO ramp
 rw [fu]
 rfl
def rk (T:Tx K mg):Sp:=di T (fun d c rest=>∃k n,d=k::n::rest∧c= .shuffle k n)
theorem Fb (T:Tx K mg):dO P w base T.kX 3 (rk T):=by
 refine T.kX.okA qS ?_
 rintro _ A _ s H _ Q E hr
 refine jv ?_
 rintro G b r l a as S ns pos c rest rfl W U1 kk
 revert U1
 refine rB ?_
 rintro k n hd rfl
 refine⟨_,(ac (aZ 2 qS.nd (eO (pv 1) T.au (ah T) hr))
   (ac (aZ 3 qS.nd (eO (pv 1) T.au (ah T) hr))
   (ac (aT (aV (aS (bj T.bB (a6 T) hr (ab (pv 2) ad)))) (ae (aj (aI (ab (fk T.bc) ad)))) aG)
   (ac (aT (aV (aS (bj T.gU (gD T) hr (ab (pv 3) ad)))) (ae (aj (aI (ab (fk T.fG) ad)))) aG)
   (ae (aj (aB fe (aI (ab am (ab (pv 3) ad))) (bj T.nh (ot T) hr (ab (ip (ao (pv 0) rfl) (pv 2)) (ab (pb (vA rfl) (by rfl) T.Do (by rfl) (ab (yY rfl T.dk (ab (pv 3) ad)) ad)) (ab (pv 3) ad))))))))))),?_⟩
 have W0:=W;have ki0:=KI.refl H;have hd0:=hd
 refine aN W0 hd0 ki0 rfl fun H1 W1 hd1 ki1=>?_
 refine aN W1 hd1 ki1 rfl fun H2 W2 hd2 ki2=>?_
 have es:=FG S k n
 refine bd _ rfl k rfl _ rfl (aX (fun h1=>?_) (fun h1=>?_))
 ·rw [iU (eG h1)] at es
  exact⟨bC,aF kk W2 hd2 ki2 es⟩
 ·have hk:=cj h1
  refine bd _ rfl n rfl _ rfl (aX (fun h2=>?_) (fun h2=>?_))
  ·rw [iV (e:= -3) hk (by rw [cx,if_pos (dP (eG h2))])] at es
   exact⟨bC,aF kk W2 hd2 ki2 es⟩
  ·have hn:=cj h2
   refine io (fun x t hx ht est hst hlt=>?_) (W2.sGet (k:=k.toNat) ⋯)
   rw [mD (r:=((Vbdeab.raws n.toNat t).1,shownRow (shuffled n.toNat (Vbdeab.raws n.toNat t).2 0 (ramp n.toNat)))) hk (by rw [est,cx,aE hn,if_neg ()])] at es
   refine df _ rfl rm fun q hq=>?_
   have sq:aC H2 (bT H2 q (.lst [.int 0,.int n])):=aC.laid hq
   have W3:=W2.same sq
   obtain⟨db,hb⟩:=id W3.bank
   obtain⟨dx,hxo⟩:bU T (bT H2 q (.lst [.int 0,.int n])) x t:=let ⟨d,h⟩:=hst;⟨d,sq _ _ h⟩
   refine aM _ rfl b _ db _ _ rfl hb T.aQ.cl (T.aQ.no _ ()) rfl (bQ _ rfl l _ _ _ rfl rfl (a5.of W3.lst) (Kp hk.1 hx) ?_)
   refine sY _ rfl n rfl ⋯ ⋯ fun g hg=>(cK g n rfl (b8 af ⋯ ⋯ fun e he=>?_))
   have sg:=aC.laid (o:= .rng 0 n) hg
   have se:=aC.laid (o:= .lst (xO n.toNat)) he
   have s4:=sg.trans se
   have W4:=W3.same s4
   have hxo4:=s4 _ _ hxo
   have hq4:=s4 _ _ (af (H:=H2) (a:=q) (o:= .lst [.int 0,.int n]))
   have hrl:(ramp n.toNat).length=n.toNat:=Ch.GP _
   have en:=cE hn.1
   refine aM _ rfl x e t (ramp n.toNat) n.toNat (by rw [en];rfl) ⟨dx,hxo4⟩ (a5.of (by rw [af,Mx])) ⋯ ⋯ fun H5 p5 hp5 hs5 kp5 np5=>?_
   rw [hrl] at hp5
   have W5:=W4.stream hx ⟨dx,hxo4⟩ hs5 kp5 (uZ hlt _)
   have hq5:=kp5 _ _ hq4 (bg hq4 hxo4 (by intro z;cases z))
   have hlen:(shuffled n.toNat (Vbdeab.raws n.toNat t).2 0 (ramp n.toNat)).length=n.toNat:=by rw [Ch.hX,hrl]
   rw [lD ⋯] at hp5
   refine j5 q p5 _ _ rfl rfl hq5 hp5 (by rw [aD,hlen];show 2+n.toNat≤2 ^ 24;omega) ?_
   have e2:(0:Int)::shownRow (shuffled n.toNat (Vbdeab.raws n.toNat t).2 0 (ramp n.toNat))=0::n::shuffled n.toNat (Vbdeab.raws n.toNat t).2 0 (ramp n.toNat):=by
    unfold shownRow
    rw [hlen,en]
   rw [e2] at es
   exact aF kk W5 hd2 (((ki2.trans (KI.same sq)).trans (KI.same s4)).trans (KI.keep1 kp5 hxo4)) es
def uw (T:Tx K mg):Sp:=di T (fun d c rest=>∃k n m,d=k::n::m::rest∧c= .sample k n m)
theorem GH (T:Tx K mg):dO P w base T.m9 3 (uw T):=by
 refine T.m9.okA nY ?_
 rintro _ A _ s H _ Q E hr
 refine jv ?_
 rintro G b r l a as S ns pos c rest rfl W U1 kk
 revert U1
 refine tq ?_
 rintro k n m hd rfl
 refine⟨_,(ac (aZ 2 nY.nd (eO (pv 1) T.au (ah T) hr))
   (ac (aZ 3 nY.nd (eO (pv 1) T.au (ah T) hr))
   (ac (aZ 4 nY.nd (eO (pv 1) T.au (ah T) hr))
   (ac (aT (aV (aS (bj T.bB (a6 T) hr (ab (pv 2) ad)))) (ae (aj (aI (ab (fk T.bc) ad)))) aG)
   (ac (aT (aV (aS (bj T.gU (gD T) hr (ab (pv 3) ad)))) (ae (aj (aI (ab (fk T.fG) ad)))) aG)
   (ac (aT (aV (aS (bj T.bW (a8 T) hr (ab (pv 4) (ab am (ab (pv 3) ad)))))) (ae (aj (aI (ab (fk T.yF) ad)))) aG)
   (ae (aj (aB fe (aI (ab am (ab (pv 4) ad))) (bj T.nh (ot T) hr (ab (ip (ao (pv 0) rfl) (pv 2)) (ab (pb (vA rfl) (by rfl) T.Do (by rfl) (ab (yY rfl T.dk (ab (pv 3) ad)) ad)) (ab (pv 4) ad))))))))))))),?_⟩
 have W0:=W;have ki0:=KI.refl H;have hd0:=hd
 refine aN W0 hd0 ki0 rfl fun H1 W1 hd1 ki1=>?_
 refine aN W1 hd1 ki1 rfl fun H2 W2 hd2 ki2=>?_
 refine aN W2 hd2 ki2 rfl fun H3 W3 hd3 ki3=>?_
 have es:=Hn S k n m
 refine bd _ rfl k rfl _ rfl (aX (fun h1=>?_) (fun h1=>?_))
 ·rw [iU (eG h1)] at es
  exact⟨bC,aF kk W3 hd3 ki3 es⟩
 ·have hk:=cj h1
  refine bd _ rfl n rfl _ rfl (aX (fun h2=>?_) (fun h2=>?_))
  ·rw [iV (e:= -3) hk (by rw [cx,if_pos (dP (eG h2))])] at es
   exact⟨bC,aF kk W3 hd3 ki3 es⟩
  ·have hn:=cj h2
   refine bJ _ rfl (fB _ rfl m 0 (bD n rfl _ rfl (aX (fun h3=>?_) (fun h3=>?_))))
   ·rw [iV (e:= -7) hk (by rw [cx,cx,aE hn,if_neg (),if_pos (dP (eG h3))])] at es
    exact⟨bC,aF kk W3 hd3 ki3 es⟩
   ·have hm:=cj h3
    refine io (fun x t hx ht est hst hlt=>?_) (W3.sGet (k:=k.toNat) ⋯)
    rw [mD (r:=((Vbdeab.raws m.toNat t).1,shownRow ((shuffled n.toNat (Vbdeab.raws m.toNat t).2 0 (ramp n.toNat)).take m.toNat))) hk (by rw [est,cx,cx,aE hn,if_neg (),aE hm,if_neg ()])] at es
    refine df _ rfl rm fun q hq=>?_
    have sq:aC H3 (bT H3 q (.lst [.int 0,.int m])):=aC.laid hq
    have W4:=W3.same sq
    obtain⟨db,hb⟩:=id W4.bank
    obtain⟨dx,hxo⟩:bU T (bT H3 q (.lst [.int 0,.int m])) x t:=let ⟨d,h⟩:=hst;⟨d,sq _ _ h⟩
    refine aM _ rfl b _ db _ _ rfl hb T.aQ.cl (T.aQ.no _ ()) rfl (bQ _ rfl l _ _ _ rfl rfl (a5.of W4.lst) (Kp hk.1 hx) ?_)
    refine sY _ rfl n rfl ⋯ ⋯ fun g hg=>(cK g n rfl (b8 af ⋯ ⋯ fun e he=>?_))
    have sg:=aC.laid (o:= .rng 0 n) hg
    have se:=aC.laid (o:= .lst (xO n.toNat)) he
    have s4:=sg.trans se
    have W5:=W4.same s4
    have hxo4:=s4 _ _ hxo
    have hq4:=s4 _ _ (af (H:=H3) (a:=q) (o:= .lst [.int 0,.int m]))
    have hrl:(ramp n.toNat).length=n.toNat:=Ch.GP _
    have em:=cE hm.1
    refine aM _ rfl x e t (ramp n.toNat) m.toNat (by rw [em];rfl) ⟨dx,hxo4⟩ (a5.of (by rw [af,Mx])) ⋯ ⋯ fun H5 p5 hp5 hs5 kp5 np5=>?_
    rw [hrl] at hp5
    have W6:=W5.stream hx ⟨dx,hxo4⟩ hs5 kp5 (uZ hlt _)
    have hq5:=kp5 _ _ hq4 (bg hq4 hxo4 (by intro z;cases z))
    have hlen:((shuffled n.toNat (Vbdeab.raws m.toNat t).2 0 (ramp n.toNat)).take m.toNat).length=m.toNat:=by rw [ii,Ch.hX,hrl];omega
    refine j5 q p5 _ _ rfl rfl hq5 hp5 (by rw [aD,hlen];show 2+m.toNat≤2 ^ 24;omega) ?_
    have e2:(0:Int)::shownRow ((shuffled n.toNat (Vbdeab.raws m.toNat t).2 0 (ramp n.toNat)).take m.toNat)=0::m::(shuffled n.toNat (Vbdeab.raws m.toNat t).2 0 (ramp n.toNat)).take m.toNat:=by
     unfold shownRow
     rw [hlen,em]
    rw [e2] at es
    exact aF kk W6 hd3 (((ki3.trans (KI.same sq)).trans (KI.same s4)).trans (KI.keep1 kp5 hxo4)) es
open Vbdeab (Class Dist)
theorem ME (S:State) (k:Int) (row:List Int):Vbdeab.step S (.mix k row)=onStream S k fun t=>if 1000<row.length then .error (-3) else if row.all (fun z=>decide (z.natAbs≤Vbdeab.BIG))=false then .error (-5) else
   .ok ((Vbdeab.raws row.length t).1,shownRow (shuffled row.length (Vbdeab.raws row.length t).2 0 row)):=by rw [Vbdeab.step]
theorem K9 (S:State) (k m:Int) (ws:List Int):Vbdeab.step S (.lots k m ws)=onStream S k fun t=>match weights ws with
  | none=> .error (-6)
  | some l=>if within m 0 (l.filter fun w=>decide (0<w)).length=false then .error (-7) else
   .ok ((Vbdeab.raws m.toNat t).1,shownRow (nats (lotsOf (Vbdeab.raws m.toNat t).2 l))):=by
 rw [Vbdeab.step]
 rfl
def CO (T:Tx K mg):Sp:=di T (fun d c rest=>∃(k:Int) (n_ws:Nat) (ws:List Int),d=k::(n_ws:Int)::(ws++rest)∧ws.length=n_ws∧c= .mix k ws)
theorem Md (T:Tx K mg):dO P w base T.Dh 3 (CO T):=by
 refine T.Dh.okA ui ?_
 rintro _ A _ s H _ Q E hr
 refine jv ?_
 rintro G b r l a as S ns pos c rest rfl W U1 kk
 revert U1
 refine d7 ?_
 rintro k n_ws ws hd hl_ws rfl
 refine⟨_,(ac (aZ 2 ui.nd (eO (pv 1) T.au (ah T) hr))
   (ac (aZ 3 ui.nd (eO (pv 1) T.dj (dQ T) hr))
   (ac (aT (aV (aS (bj T.bB (a6 T) hr (ab (pv 2) ad)))) (ae (aj (aI (ab (fk T.bc) ad)))) aG)
   (ac (aT (aV (aS (bj T.gU (gD T) hr (ab (a9 aW (by rfl) T.gx eA (ab (pv 3) ad)) ad)))) (ae (aj (aI (ab (fk T.fG) ad)))) aG)
   (ac (aT (aV (aS (a9 (Ow rfl) (by rfl) T.Ql (by rfl) (ab (j9 (own:= [("number",4)]) rfl ui.nd (cF (pv 3)) (ci (N:= ["bank","reader","k","row","number"]) (sc:=ag Fi) (by decide+kernel)) (fun _ _ _ _ _=>(kZ 4 ui.nd)) (fun _ _ _ _ _=>dS) (fun _ _ _ _ _=>(bj T.gT (fU T) hr (ab (pv 4) ad)))) ad)))) (ae (aj (aI (ab (fk T.k8) ad)))) aG)
   (ae (aj (aB fe (aI (ab am (ab (a9 aW (by rfl) T.gx eA (ab (pv 3) ad)) ad))) (bj T.nh (ot T) hr (ab (ip (ao (pv 0) rfl) (pv 2)) (ab (pv 3) (ab (a9 aW (by rfl) T.gx eA (ab (pv 3) ad)) ad)))))))))))),?_⟩
 have W0:=W;have ki0:=KI.refl H;have hd0:=hd
 refine aN W0 hd0 ki0 rfl fun H1 W1 hd1 ki1=>?_
 obtain⟨dr1,hr1⟩:=id W1.rd
 obtain⟨g2,hq2⟩:=lg hd1
 refine gk (fun e2 hd2 le2=>?_) (xQ hq2 g2 hl_ws)
 refine cP _ rfl r dr1 _ rfl hr1 rfl (iK r a _ n_ws ns rfl ⟨dr1,hr1⟩ W1.sq g2 le2 fun H2 p_ws hr2 hp_ws kp2 np_ws=>?_)
 rw [e2] at hp_ws
 have W2:=W1.reader hr2 kp2;have ki2:=ki1.trans (KI.keep1 kp2 hr1);obtain⟨dr2,hr2⟩:=hr2
 have es:=ME S k ws
 have lw:(ws.map V.int).length=ws.length:=aD ..
 refine bd _ rfl k rfl _ rfl (aX (fun h1=>?_) (fun h1=>?_))
 ·rw [iU (eG h1)] at es
  exact⟨bC,aF kk W2 hd2 ki2 es⟩
 ·have hk:=cj h1
  refine cy _ rfl p_ws _ rfl (.inl (a5.of hp_ws)) (bD _ rfl _ rfl (aX (fun h2=>?_) (fun h2=>?_)))
  ·have h2':1000<ws.length:=by have:=eG h2;rw [lw] at this;omega
   rw [iV (e:= -3) hk (by rw [if_pos h2'])] at es
   exact⟨bC,aF kk W2 hd2 ki2 es⟩
  ·have h2':¬1000<ws.length:=by have:=cj h2;rw [lw] at this;omega
   refine pO _ rfl p_ws rfl ⟨_,a5.of hp_ws⟩ fun L hL=>jD (xs:=ws.map V.int) (fun i H'=>H' L=some (.lst (((ws.take i).map fun z=>decide (-1000000000000000000≤z∧z≤1000000000000000000)).map V.bl))∧aC H2 H') ⟨af,aC.laid hL⟩ (fun i H' _ h=>a5.of (h.2 _ _ hp_ws)) ?_ ?_
   ·rintro i v H3 hv ⟨hL3,s3⟩
    refine a4 ?_ (Gj hv)
    rintro z hz rfl
    refine dt rfl _ rfl (sY z rfl _ hL3 (by rw [aD,aD,ii];show _<2 ^ 24;omega) ?_ fun q o e=>?_)
    ·rw [af,Ch.bA hz,dB,dB]
     rfl
    ·rw [ak (aw e hL)]
     exact s3 q o e
   ·rintro H3 ⟨hL3,s3⟩
    rw [lw,jU] at hL3
    have eall:(ws.map fun z=>decide (-1000000000000000000≤z∧z≤1000000000000000000)).all id=ws.all (fun z=>decide (z.natAbs≤Vbdeab.BIG)):=by
     rw [List.all_map]
     congr 1
     funext z
     show decide _=decide _
     by_cases c:z.natAbs≤Vbdeab.BIG
     ·rw [aE c,aE ((uX z).mp c)]
     ·rw [br c,br fun q=>c ((uX z).mpr q)]
    have W3:=W2.same s3
    have ki3:=ki2.trans (KI.same s3)
    refine⟨L,(eQ _ rfl (a5.of hL3) _ rfl ?_)⟩
    rw [eall]
    cases hall:ws.all (fun z=>decide (z.natAbs≤Vbdeab.BIG)) with
    | false=>
     refine jC ?_
     rw [iV (e:= -5) hk (by rw [if_neg h2',hall,if_pos rfl])] at es
     exact⟨bC,aF kk W3 hd2 ki3 es⟩
    | true=>
     refine io (fun x t hx ht est hst hlt=>?_) (W3.sGet (k:=k.toNat) ⋯)
     rw [mD (r:=((Vbdeab.raws ws.length t).1,shownRow (shuffled ws.length (Vbdeab.raws ws.length t).2 0 ws))) hk (by rw [est,if_neg h2',hall,if_neg ()])] at es
     refine eu _ rfl p_ws _ rfl (.inl (a5.of (s3 _ _ hp_ws))) rm fun q hq=>?_
     have sq:=aC.laid (o:= .lst [V.int 0,V.int ((ws.map V.int).length:Int)]) hq
     have W4:=W3.same sq
     obtain⟨db,hb⟩:=id W4.bank
     obtain⟨dx,hxo⟩:=id hst
     have hxo4:=sq _ _ hxo
     have hpw:=sq _ _ (s3 _ _ hp_ws)
     refine aM _ rfl b _ db _ _ rfl hb T.aQ.cl (T.aQ.no _ ()) rfl (bQ _ rfl l _ _ _ rfl rfl (a5.of W4.lst) (Kp hk.1 hx) (eY _ rfl _ rfl p_ws _ rfl (.inl (a5.of hpw)) (iK x p_ws t ws ws.length (by rw [lw];rfl) ⟨dx,hxo4⟩ (a5.of hpw) ⋯ (bq _) fun H5 p5 hp5 hs5 kp5 np5=>?_)))
     have W5:=W4.stream hx ⟨dx,hxo4⟩ hs5 kp5 (uZ hlt _)
     have hq5:=kp5 _ _ (af (H:=H3) (a:=q) (o:= .lst [V.int 0,V.int ((ws.map V.int).length:Int)])) (bg af hxo4 (by intro z;cases z))
     have hlen:(shuffled ws.length (Vbdeab.raws ws.length t).2 0 ws).length=ws.length:=Ch.hX _ _ _ _
     rw [lD ⋯] at hp5
     have hlenV:((shuffled ws.length (Vbdeab.raws ws.length t).2 0 ws).map V.int).length=ws.length:=by rw [aD,hlen]
     refine j5 q p5 _ _ rfl rfl hq5 hp5 (by rw [hlenV];show 2+ws.length≤2 ^ 24;omega) ?_
     have e2:(0:Int)::shownRow (shuffled ws.length (Vbdeab.raws ws.length t).2 0 ws)=0::((ws.map V.int).length:Int)::shuffled ws.length (Vbdeab.raws ws.length t).2 0 ws:=by
      unfold shownRow
      rw [hlen,lw]
     rw [e2] at es
     exact aF kk W5 hd2 ((ki3.trans (KI.same sq)).trans (KI.keep1 kp5 hxo4)) es
theorem IX {ws:List Nat} (h1:1≤ws.length) (h2:ws.length≤64) (h3:0<Vbdeab.sum ws) (h4:Vbdeab.sum ws≤10 ^ 40):(weights (nats ws)).isSome=true:=by
 rw [Kd.jQ,if_pos]
 ·rfl
 ·unfold weightsOk LIMIT
  rw [aE h1,aE h2,aE (show 1≤Vbdeab.sum ws from h3),aE h4]
  rfl
theorem Il (ws:List Nat):(nats ws).map Int.toNat=ws:=by
 unfold nats
 rw [fu]
 have:(Int.toNat∘Int.ofNat)=id:=by funext n;rfl
 rw [this,List.map_id]
def A9 (T:Tx K mg):Sp:=fun vs H Q _=>∃(a r:Addr) (t:Stream) (ws:List Nat) (m:Nat),vs= [.ref a,.ref r,.int m]∧bU T H a t∧a5 K H r (dJ ws)∧1≤ws.length∧ws.length≤64∧Vbdeab.sum ws≤10 ^ 40∧m≤Lt.pos ws∧m≤64∧∀(H':Hp) (p:Addr),H' p=some (.lst (dJ (lotsOf (Vbdeab.raws m t).2 ws)))→bU T H' a (Vbdeab.raws m t).1→iE H H' a→H p=none→Q (.ref p) H'
theorem AN (T:Tx K mg):dO P w base T.rK 2 (A9 T):=by
 refine T.rK.okA fQ ?_
 rintro _ A _ s H _ Q E hr
 refine FL ?_
 rintro a r t ws m rfl U1 hs l1 l2
 refine nl fun hsum hm hm2 k=>?_
 obtain⟨da,h1⟩:=U1
 refine⟨_,(ac (aZ 3 fQ.nd (pb p9 (by rfl) T.Do (by rfl) (ab (pv 1) ad)))
   (ac (aZ 4 fQ.nd (aI ad))
   (ac (eh cM rfl (cu rfl T.dk (ab (pv 2) ad)) (kZ 5 fQ.nd) (ac (aZ 6 fQ.nd (bj T.jX (nB T) hr (ab (eO (pv 0) T.bL (bX T) hr) (ab (pv 3) ad))))
   (ac (gw (rZ lM uG uH jg (pv 4) (ab (pv 6) ad)))
   (ae (qK am (qH (pv 3) (pv 6) iJ))))))
   (ae (aj (pv 4)))))),?_⟩
 refine cy _ rfl r _ rfl (.inl hs) fun q hq=>?_
 have sq:=aC.laid (o:= .lst (dJ ws)) hq
 have naq:a≠q:=aw h1 hq
 refine⟨bo _,fun p hp=>?_⟩
 have sp:=aC.laid (o:= .lst []) hp
 have np:H p=none:=sq.free hp
 have nqp:q≠p:=aw af hp
 have nap:a≠p:=aw (sq _ _ h1) hp
 refine sY _ rfl m rfl ⋯ ⋯ (gY (n:=(m:Int).toNat) (fun i σ H'=>i≤m∧∃v1 v2:Option V,σ= [some (.ref a),some (.ref r),some (.int m),some (.ref q),some (.ref p),v1,v2]∧H' q=some (.lst (dJ (Lt.left (Vbdeab.raws i t).2 ws)))∧H' p=some (.lst (dJ (lotsOf (Vbdeab.raws i t).2 ws)))∧bU T H' a (Vbdeab.raws i t).1∧Lt.EH ws i (Lt.left (Vbdeab.raws i t).2 ws)∧∀b o,H b=some o→b≠a→H' b=some o) ?_ ?_ ?_)
 ·refine⟨bo _,(bV none none rfl ?_ (b8 ?_ ⟨da,?_⟩ ?_ fun b o e _=>sp _ _ (sq _ _ e)))⟩
  ·rw [sp _ _ af,Ch.dC]
   rfl
  ·rw [af,Ch.dC]
   rfl
  ·rw [sp _ _ (sq _ _ h1),Ch.dC]
  ·rw [Ch.dC]
   exact Lt.EH.start ws
 ·rintro i σ H1 hi
  refine Li ?_
  rintro _ v1 v2 rfl hq1
  refine nl fun hp1 U1 good kp=>?_
  obtain⟨d1,ha1⟩:=U1
  rw [cV] at hi
  have ulen:(Vbdeab.raws i t).2.length=i:=Ch.gF _ _
  have snoc:=Ch.fW i t
  generalize hL:Lt.left (Vbdeab.raws i t).2 ws=L at*
  have hgs:=good.spos (show i<Lt.pos ws by omega)
  obtain⟨g2,clt⟩:=good.step (show i<Lt.pos ws by omega) (Ch.wq (s:=(Vbdeab.raws i t).1))
  have gl:=good.len
  refine cP _ rfl a d1 _ rfl ha1 rfl (bV a _ rfl ⟨d1,ha1⟩ fun H2 ⟨d2,ha2⟩ kp2=>?_)
  have hq2:H2 q=some (.lst (dJ L)):=kp2 _ _ hq1 (Ne.symm naq)
  have hp2:=kp2 _ _ hp1 (Ne.symm nap)
  refine bJ _ rfl (i5 _ q (nats L) rfl Ch.wq (a5.of hq2) (IX ⋯ ⋯ hgs (by have:=good.sum;omega)) ?_)
  rw [Il]
  refine eQ _ rfl (.inl ⟨rfl,_,a5.of hp2⟩) _ rfl (i5 p _ _ rfl rfl hp2 (by rw [bf,Lt.xu,ulen];show i<2 ^ 24;omega) ?_)
  refine pP _ rfl _ rfl q _ _ (chosen L (Vbdeab.raw (Vbdeab.raws i t).1).2) rfl rfl ?_ (qo rfl (by rw [bf];exact clt)) ⋯ (bV _ _ rfl ?_ (b8 ?_ ⟨d2,?_⟩ ?_ fun b o e nb=>?_))
  ·rw [ak nqp]
   exact hq2
  ·rw [af,snoc,Lt.yM,hL]
   unfold dJ nats
   rw [yy,yy]
   rfl
  ·rw [ak (Ne.symm nqp),af,snoc,Lt.Ef,hL,gz]
  ·rw [ak naq,ak nap,ha2,snoc]
  ·rw [snoc,Lt.yM,hL]
   exact g2
  ·rw [ak (aw e hq),ak (aw e np)]
   exact kp2 _ _ (kp _ _ e nb) nb
 ·rintro σ H1
  refine Li ?_
  rintro _ v1 v2 rfl hq1
  refine nl fun hp1 ha1 good kp=>?_
  rw [cV] at hp1 ha1
  exact⟨_,rfl,k H1 p hp1 ha1 (fun b o e nb=>kp b o e nb) np⟩
theorem Ik {l:List Int} (h:∀x∈l,0≤x):l.map V.int=dJ (l.map Int.toNat):=by
 unfold dJ nats
 rw [fu,fu]
 refine oa fun x hx=>?_
 show V.int x=V.int ((x.toNat:Nat):Int)
 rw [cE (h x hx)]
theorem LI {l:List Int} (h:∀x∈l,0≤x):(l.filter fun z=>decide (0<z)).length=Lt.pos (l.map Int.toNat):=by
 induction l with
 | nil=>rfl
 | cons a r ih=>
  have ih:=ih fun x hx=>h x (dX _ hx)
  have ha:=h a fD
  rw [e9,Lt.pd,←ih,uJ]
  by_cases q:0<a
  ·rw [if_pos (aE q),if_pos ⋯,d8];omega
  ·rw [if_neg (by simp;omega),if_neg ⋯,i7]
def zC (T:Tx K mg):Sp:=di T (fun d c rest=>∃(k m:Int) (n_ws:Nat) (ws:List Int),d=k::m::(n_ws:Int)::(ws++rest)∧ws.length=n_ws∧c= .lots k m ws)
theorem KL (T:Tx K mg):dO P w base T.w9 3 (zC T):=by
 refine T.w9.okA me ?_
 rintro _ A _ s H _ Q E hr
 refine jv ?_
 rintro G b r l a as S ns pos c rest rfl W U1 kk
 revert U1
 refine Ja ?_
 rintro k m n_ws ws hd hl_ws rfl
 refine⟨_,(ac (aZ 2 me.nd (eO (pv 1) T.au (ah T) hr))
   (ac (aZ 3 me.nd (eO (pv 1) T.au (ah T) hr))
   (ac (aZ 4 me.nd (eO (pv 1) T.dj (dQ T) hr))
   (ac (aT (aV (aS (bj T.bB (a6 T) hr (ab (pv 2) ad)))) (ae (aj (aI (ab (fk T.bc) ad)))) aG)
   (ac (aT (aV (aS (bj T.iL (kF T) hr (ab (pv 4) ad)))) (ae (aj (aI (ab (fk T.lR) ad)))) aG)
   (ac (aT (aV (aS (bj T.bW (a8 T) hr (ab (pv 3) (ab am (ab (a9 aW (by rfl) T.gx eA (ab (j9 (own:= [("weight",5)]) rfl me.nd (cF (pv 4)) (ci (N:= ["bank","reader","k","m","weights","weight"]) (sc:=ag Cf) (by decide+kernel)) (fun _ _ _ _ _=>(kZ 5 me.nd)) (fun _ _ _ _ _=>(Fg (aR vD (pv 5) am (aY _)))) (fun _ _ _ _ _=>(pv 5))) ad)) ad)))))) (ae (aj (aI (ab (fk T.yF) ad)))) aG)
   (ae (aj (aB fe (aI (ab am (ab (pv 3) ad))) (bj T.rK (AN T) hr (ab (ip (ao (pv 0) rfl) (pv 2)) (ab (pv 4) (ab (pv 3) ad))))))))))))),?_⟩
 have W0:=W;have ki0:=KI.refl H;have hd0:=hd
 refine aN W0 hd0 ki0 rfl fun H1 W1 hd1 ki1=>?_
 refine aN W1 hd1 ki1 rfl fun H2 W2 hd2 ki2=>?_
 obtain⟨dr2,hr2⟩:=id W2.rd
 obtain⟨g3,hq3⟩:=lg hd2
 refine gk (fun e3 hd3 le3=>?_) (xQ hq3 g3 hl_ws)
 refine cP _ rfl r dr2 _ rfl hr2 rfl (iK r a _ n_ws ns rfl ⟨dr2,hr2⟩ W2.sq g3 le3 fun H3 p_ws hr3 hp_ws kp3 np_ws=>?_)
 rw [e3] at hp_ws
 have W3:=W2.reader hr3 kp3;have ki3:=ki2.trans (KI.keep1 kp3 hr2);obtain⟨dr3,hr3⟩:=hr3
 have es:=K9 S k m ws
 have lw:(ws.map V.int).length=ws.length:=aD ..
 refine bd _ rfl k rfl _ rfl (aX (fun h1=>?_) (fun h1=>?_))
 ·rw [iU (eG h1)] at es
  exact⟨bC,aF kk W3 hd3 ki3 es⟩
 ·have hk:=cj h1
  refine lA _ rfl p_ws ws rfl (a5.of hp_ws) _ rfl (aX (fun h2=>?_) (fun h2=>?_))
  ·have hw:weights ws=none:=by
    cases e:weights ws with
    | none=>rfl
    | some z=>rw [e] at h2;cases h2
   rw [iV (e:= -6) hk (by rw [hw])] at es
   exact⟨bC,aF kk W3 hd3 ki3 es⟩
  ·have hw:(weights ws).isSome=true:=by
    cases e:(weights ws).isSome with
    | true=>rfl
    | false=>rw [e] at h2;exact absurd rfl h2
   refine rA (fun nn ew l1 l2 s1 s2=>?_) (jR hw)
   refine bJ _ rfl (pO _ rfl p_ws rfl ⟨_,a5.of hp_ws⟩ fun L hL=>jD (xs:=ws.map V.int) (fun i H'=>(∃zs:List V,H' L=some (.lst zs)∧zs.length=((ws.take i).filter fun z=>decide (0<z)).length)∧aC H3 H') ⟨⟨[],af,rfl⟩,aC.laid hL⟩ (fun i H' _ h=>a5.of (h.2 _ _ hp_ws)) ?_ ?_)
   ·rintro i v H4 hv ⟨⟨zs,hL4,hz4⟩,s4⟩
    refine a4 ?_ (Gj hv)
    rintro z hz rfl
    have fl:∀i,((ws.take i).filter fun z=>decide (0<z)).length≤ws.length:=fun i=>fS (HI _ _) (by rw [ii];omega)
    refine⟨rfl,(lA _ rfl _ _ rfl rfl _ rfl (aX (fun h3=>?_) (fun h3=>?_)))⟩
    ·have h3':0<z:=bn h3
     refine sY _ rfl _ hL4 ?_ ⟨_,af,?_⟩ fun q o e=>?_
     ·rw [hz4]
      have:=fl i
      show _<2 ^ 24
      omega
     ·rw [Ch.bA hz,HE,bZ,bZ,hz4,uJ,if_pos (aE h3')]
      rfl
     ·rw [ak (aw e hL)]
      exact s4 q o e
    ·have h3':¬0<z:=fun q=>h3 (aE q)
     refine⟨⟨zs,hL4,?_⟩,s4⟩
     rw [Ch.bA hz,HE,bZ,uJ,if_neg (by simp;omega),hz4]
     rfl
   ·rintro H4 ⟨⟨zs,hL4,hz4⟩,s4⟩
    rw [lw,jU,LI nn] at hz4
    have W4:=W3.same s4
    have ki4:=ki3.trans (KI.same s4)
    have epos:((ws.map Int.toNat).filter fun w=>decide (0<w)).length=Lt.pos (ws.map Int.toNat):=rfl
    refine bV L _ rfl (.inl (a5.of hL4)) (oE m 0 (bD _ rfl _ rfl ?_))
    rw [hz4]
    refine aX (fun h3=>?_) (fun h3=>?_)
    ·rw [iV (e:= -7) hk (by rw [ew];show(if within m 0 _=false then _ else _)=_;rw [epos,cx,if_pos (dP (eG h3))])] at es
     exact⟨bC,aF kk W4 hd3 ki4 es⟩
    ·have hm:=cj h3
     refine io (fun x t hx ht est hst hlt=>?_) (W4.sGet (k:=k.toNat) ⋯)
     rw [mD (r:=((Vbdeab.raws m.toNat t).1,shownRow (nats (lotsOf (Vbdeab.raws m.toNat t).2 (ws.map Int.toNat))))) hk (by rw [est,ew];show(if within m 0 _=false then _ else _)=_;rw [epos,cx,aE hm,if_neg ()])] at es
     refine df _ rfl rm fun q hq=>?_
     have sq:=aC.laid (o:= .lst [V.int 0,V.int m]) hq
     have W5:=W4.same sq
     obtain⟨db,hb⟩:=id W5.bank
     obtain⟨dx,hxo⟩:=id hst
     have hxo5:=sq _ _ hxo
     have hpw:=sq _ _ (s4 _ _ hp_ws)
     rw [Ik nn] at hpw
     have em:=cE hm.1
     have hpl:Lt.pos (ws.map Int.toNat)≤(ws.map Int.toNat).length:=HI _ _
     have hlm:(ws.map Int.toNat).length=ws.length:=aD ..
     refine aM _ rfl b _ db _ _ rfl hb T.aQ.cl (T.aQ.no _ ()) rfl (bQ _ rfl l _ _ _ rfl rfl (a5.of W5.lst) (Kp hk.1 hx) (i4 _ rfl _ rfl x p_ws t (ws.map Int.toNat) m.toNat (by rw [em];rfl) ⟨dx,hxo5⟩ (a5.of hpw) ⋯ ⋯ (b8 s2 ⋯ ⋯ fun H6 p6 hp6 hs6 kp6 np6=>?_)))
     have W6:=W5.stream hx ⟨dx,hxo5⟩ hs6 kp6 (uZ hlt _)
     have hq6:=kp6 _ _ (af (H:=H4) (a:=q) (o:= .lst [V.int 0,V.int m])) (bg af hxo5 (by intro z;cases z))
     have hlen:(nats (lotsOf (Vbdeab.raws m.toNat t).2 (ws.map Int.toNat))).length=m.toNat:=by rw [tM,Lt.xu,Ch.gF]
     refine j5 q p6 _ _ rfl rfl hq6 hp6 (by rw [bf,Lt.xu,Ch.gF];show 2+m.toNat≤2 ^ 24;omega) ?_
     have e2:(0:Int)::shownRow (nats (lotsOf (Vbdeab.raws m.toNat t).2 (ws.map Int.toNat)))=0::m::nats (lotsOf (Vbdeab.raws m.toNat t).2 (ws.map Int.toNat)):=by
      unfold shownRow
      rw [hlen,em]
     rw [e2] at es
     exact aF kk W6 hd3 ((ki4.trans (KI.same sq)).trans (KI.keep1 kp6 hxo5)) es
open Vbdeab (Class Dist)
theorem Bl {T:Tx K mg} {H:Hp} {b r l a:Addr} {as:List Addr} {S:State} {ns:List Int} {pos:Nat} (W:Wd G T H b r l a as S ns pos):∀c∈G.av l,H c≠none:=fun c hc z=>by
 unfold Gh.av at hc
 obtain⟨xs,ho⟩:=W.dw.oo
 refine a4 (fun vs hv _=>?_) W.dw.vs
 rcases cH.mp hc with q | hc
 ·rw [q,ho] at z;cases z
 ·rcases cH.mp hc with q | hc
  ·rw [q,W.lst] at z;cases z
  ·rw [gQ] at hc
   rw [hc,hv] at z;cases z
theorem Wd.dGet {T:Tx K mg} {H:Hp} {b r l a:Addr} {as:List Addr} {S:State} {ns:List Int} {pos:Nat} (W:Wd G T H b r l a as S ns pos) {d:Int} (h:0≤d∧d≤63):∃vs v,H G.l2=some (.lst vs)∧vs.length=64∧vs[d.toNat]?=some v∧Lk vs d=some v∧je T (G.av l) H v (S.dist d.toNat):=by
 refine lB (fun vs h1 h2 h3=>?_) W.dw.vs
 have e:=bH (show d.toNat<vs.length by omega)
 have e2:=bH (show d.toNat<S.dists.length by rw [W.dw.dlen];omega)
 refine cK vs _ h1 (b8 h2 e (vy (j:=d.toNat) ⋯ e) ?_)
 have z:=h3 _ _ _ e e2
 unfold State.dist
 rw [e8,e2]
 exact z
theorem Wd.hold {T:Tx K mg} {H:Hp} {b r l a:Addr} {as:List Addr} {S:State} {ns:List Int} {pos:Nat} (W:Wd G T H b r l a as S ns pos) {d:Nat} (hd:d<64) {vs:List V} (hv:H G.l2=some (.lst vs)) {v:V} {x:Option Dist} (o:je T (G.av l) H v x):
  Wd G T (bT H G.l2 (.lst (vs.set d v))) b r l a as (S.hold d x) ns pos:=by
 obtain⟨U,U1,hq,hl,nd,len,sl,at_,ok,dw⟩:=W
 obtain⟨dx,hb⟩:=U
 obtain⟨dr,hr⟩:=U1
 have kp:∀c o,H c=some o→c≠G.l2→bT H G.l2 (.lst (vs.set d v)) c=some o:=fun c o e n=>by rw [ak n];exact e
 have kpp:KQ (G.av l) H (bT H G.l2 (.lst (vs.set d v))):= .set (by unfold Gh.av;simp) hv
 refine⟨⟨dx,kp _ _ hb (bg hb hv (by intro z;cases z))⟩,⟨dr,kp _ _ hr (bg hr hv (by intro z;cases z))⟩,hq.keep (fun _ _ _ e=>kp _ _ e (bg e hv (by intro z;cases z))),kp _ _ hl dw.n3,nd,len,sl,fun j z u h2 h3=>?_,ok,?_⟩
 ·obtain⟨d,h⟩:=at_ j z u h2 h3
  exact⟨d,kp _ _ h (bg h hv (by intro z;cases z))⟩
 ·obtain⟨U,dlen,U1,n1,n2,n3,tb,to,bm⟩:=dw
  refine lB (fun vs' h1 h2 h3=>?_) U
  obtain⟨xs,oo⟩:=U1
  have ev:vs'=vs:=by rw [hv] at h1;exact(HO.lst.inj (bG h1)).symm
  subst ev
  refine⟨(df _ af (by rw [sJ];exact h2) fun j u y a1 a2=>?_),?_,⟨xs,kp _ _ oo (Ne.symm n2)⟩,n1,n2,n3,kpp.t _ tb,to,bm.keep kpp.x⟩
  ·have a2':(S.dists.set d x)[j]?=some y:=a2
   by_cases hj:j=d
   ·subst hj
    rw [AB ⋯] at a1
    rw [AB ⋯] at a2'
    cases a1
    cases a2'
    exact o.kp kpp.toKP
   ·rw [AA (fun q=>hj q.symm)] at a1 a2'
    exact(h3 j u y a1 a2').kp kpp.toKP
  ·show(S.dists.set d x).length=64
   rw [sJ]
   exact dlen
theorem Wd.kiHold {T:Tx K mg} {H:Hp} {b r l a:Addr} {as:List Addr} {S:State} {ns:List Int} {pos:Nat} (W:Wd G T H b r l a as S ns pos) (o:HO):KI H (bT H G.l2 o):=fun x xs h=>by
 refine(ak fun q=>?_).trans h
 refine lB (fun vs h1 h2 h3=>?_) W.dw.vs
 rw [q,h1] at h
 have e:=HO.lst.inj (bG h)
 have l0:=W.dw.dlen
 match vs,h2,e,h3 with
 | v::_,_,e,h3=>
  match S.dists,l0,h3 with
  | y::_,_,h3=>
   have z:=h3 0 v y rfl rfl
   match xs,e with
   | n::_,e=>
    have ev:v=V.int n:=by injection e
    subst ev
    cases y with
    | none=>exact absurd (show V.int n=V.non from z) (by intro q;cases q)
    | some dd=>refine a4 (fun _ q _=>?_) z;cases q
theorem lj {S:State} {d:Int} {f:Dist→State×List Int}:(¬(0≤d∧d≤63)→onDist S d f=(S,[-8]))∧((0≤d∧d≤63)→S.dist d.toNat=none→onDist S d f=(S,[-12]))∧((0≤d∧d≤63)→∀x,S.dist d.toNat=some x→onDist S d f=f x):=by
 unfold onDist
 rw [cG]
 refine⟨fun h=>?_,fun h e=>?_,fun h x e=>?_⟩
 ·rw [br h,if_pos rfl]
 ·rw [aE h,if_neg (),e]
 ·rw [aE h,if_neg (),e]
def DJ (T:Tx K mg):Sp:=fun vs H Q _=>∃n:Int,vs= [.int n]∧Q (.bl (decide (0≤n∧n≤63))) H
theorem fc (T:Tx K mg):dO P w base T.fN 2 (DJ T):=by
 refine T.fN.okA DB ?_
 rintro _ A _ s H _ Q E hr
 refine a4 ?_
 rintro n rfl k
 refine⟨_,(ae (aj (bj T.bW (a8 T) hr (ab (pv 0) (ab am (ab (aB cb (fk T.HP) am) ad)))))),?_⟩
 exact cy _ rfl _ _ rfl rfl ⟨n,(cK 0 63 rfl k)⟩
def Dz (S:State) (d:Int):Int:=if 0≤d∧d≤63 then(match S.dist d.toNat with | none=> -12 | some _=>0) else -8
def wI (T:Tx K mg):Sp:=fun vs H Q _=>∃(G:Gh) (b r l a:Addr) (as:List Addr) (S:State) (ns:List Int) (pos:Nat) (d:Int),vs= [.ref b,.int d]∧Wd G T H b r l a as S ns pos∧Q (.int (Dz S d)) H
theorem ck (T:Tx K mg):dO P w base T.cq 3 (wI T):=by
 refine T.cq.okA ww ?_
 rintro _ A _ s H _ Q E hr
 refine lC fun G b r l a as=>?_
 refine Ja ?_
 rintro S ns pos d rfl W k
 refine⟨_,(ac (aT (aV (aS (bj T.fN (fc T) hr (ab (pv 1) ad)))) (ae (aj (fk T.k9))) aG)
   (ac (aT (aR kH (ip (ao (pv 0) rfl) (pv 1)) de (aY _)) (ae (aj (fk T.oN))) aG)
   (ae (aj am)))),?_⟩
 refine bd _ rfl d rfl _ rfl (aX (fun h1=>?_) (fun h1=>?_))
 ·have e:Dz S d= -8:=if_neg (eG h1)
  rw [e] at k
  exact k
 ·have hd:=cj h1
  refine io (fun vs v h2 h3 h4 h5 h6=>?_) (W.dGet hd)
  obtain⟨db,hb⟩:=id W.bank
  have e:Dz S d=match S.dist d.toNat with | none=> -12 | some _=>0:=if_pos hd
  rw [e] at k
  refine aM _ rfl b _ db _ _ rfl hb T.aQ.cl (T.aQ.no _ ()) rfl (bQ _ rfl G.l2 _ _ _ rfl rfl (a5.of h2) h5 ?_)
  cases hx:S.dist d.toNat with
  | none=>
   rw [hx] at h6 k
   obtain rfl:v= .non:=h6
   exact dt rfl _ rfl k
  | some x=>
   rw [hx] at h6 k
   refine a4 ?_ h6
   rintro y rfl _
   exact dt rfl _ rfl k
def K0 (T:Tx K mg):Sp:=fun vs H Q _=>∃(G:Gh) (b r l a:Addr) (as:List Addr) (S:State) (ns:List Int) (pos:Nat) (d:Int) (v:V) (x:Option Dist),vs= [.ref b,.int d,v]∧Wd G T H b r l a as S ns pos∧(0≤d∧d≤63)∧je T (G.av l) H v (checked x)∧∀(H':Hp) (p:Addr) (S':State) (zs:List Int),holdNew S d x=(S',zs)→Wd G T H' b r l a as S' ns pos→H' p=some (.lst (zs.map V.int))→KI H H'→NF H p→Q (.ref p) H'
theorem yS (T:Tx K mg):dO P w base T.Dg 1 (K0 T):=by
 refine T.Dg.okA KW ?_
 rintro _ A _ s H _ Q E hr U
 obtain⟨G,b,r,l,a,as,S,ns,pos,d,v,x,rfl,W,hd,ho,kk⟩:=U
 refine⟨_,(ac (aT (aR kH (pv 2) de (aY _)) (ae (aj (aI (ab (fk T.yE) ad)))) aG)
   (ac (qK (pv 2) (qH (ao (pv 0) rfl) (pv 1) iJ))
   (ae (aj (aI (ab am ad)))))),?_⟩
 cases hx:checked x with
 | none=>
  rw [hx] at ho
  obtain rfl:v= .non:=ho
  have e:holdNew S d x=(S,[-10]):=by unfold holdNew;rw [hx]
  refine⟨_,rfl,rfl,_,rfl,bC,fun p hp=>?_⟩
  exact kk _ p S [-10] e (W.same (aC.laid hp)) af (KI.same (aC.laid hp)) ((KI.refl H).nf hp)
 | some y=>
  rw [hx] at ho
  refine a4 ?_ ho
  rintro z rfl hz
  have e:holdNew S d x=(S.hold d.toNat (some y),[0]):=by unfold holdNew;rw [hx]
  refine io (fun vs v0 h2 h3 h4 h5 h6=>?_) (W.dGet hd)
  obtain⟨db,hb⟩:=id W.bank
  have W2:=W.hold (d:=d.toNat) ⋯ h2 (x:=some y) ho
  have ki2:=W.kiHold (.lst (vs.set d.toNat (.ref z)))
  refine eQ _ rfl rfl _ rfl (i4 _ rfl _ rfl b _ db _ _ rfl hb T.aQ.cl (T.aQ.no _ ()) rfl (gP _ rfl G.l2 _ _ d.toNat rfl rfl h2 (qo ⋯ ⋯) bC fun p hp=>?_))
  exact kk _ p _ [0] e (W2.same (aC.laid hp)) af (ki2.trans (KI.same (aC.laid hp))) (ki2.nf hp)
open Vbdeab (Class Dist)
theorem Hj (S:State) (d kind:Int) (a b:List Int):Vbdeab.step S (.define d kind a b)=if streamOk d=false then(S,[-8]) else holdNew S d (build kind a b):=by rw [Vbdeab.step]
theorem Hk (S:State) (d:Int):Vbdeab.step S (.forget d)=onDist S d fun _=>(S.hold d.toNat none,[0]):=by rw [Vbdeab.step]
theorem Le (S:State) (d:Int):Vbdeab.step S (.told d)=onDist S d fun x=>(S,0::(shownRow (toldRows x).1++shownRow (toldRows x).2)):=by rw [Vbdeab.step]
theorem IO (S:State) (d e f v w:Int):Vbdeab.step S (.blend d e f v w)=if streamOk d=false∨streamOk e=false∨streamOk f=false then(S,[-8]) else match S.dist e.toNat,S.dist f.toNat with
  | some x,some y=>if within v 0 1000000000=false∨within w 0 1000000000=false∨(v=0∧w=0) then(S,[-6]) else holdNew S d (some (Vbdeab.blend x y v.toNat w.toNat))
  | _,_=>(S,[-12]):=by
 rw [Vbdeab.step]
 rfl
theorem K4 (S:State) (d e p q r t:Int):Vbdeab.step S (.bend d e p q r t)=if streamOk d=false∨streamOk e=false then(S,[-8]) else match S.dist e.toNat with
  | none=>(S,[-12])
  | some x=>match Vbdeab.fraction p q,Vbdeab.fraction r t with
   | some a,some b=>holdNew S d (some (Vbdeab.bend x a b))
   | _,_=>(S,[-5]):=by
 rw [Vbdeab.step]
 rfl
theorem gG (S:State) (d:Int):(¬(0≤d∧d≤63)∧Dz S d= -8)∨((0≤d∧d≤63)∧S.dist d.toNat=none∧Dz S d= -12)∨((0≤d∧d≤63)∧∃x,S.dist d.toNat=some x∧Dz S d=0):=by
 unfold Dz
 by_cases h:0≤d∧d≤63
 ·rw [if_pos h]
  cases e:S.dist d.toNat with
  | none=>exact .inr (.inl ⟨h,rfl,rfl⟩)
  | some x=>exact .inr (.inr (dt h x rfl rfl))
 ·rw [if_neg h]
  exact .inl ⟨h,rfl⟩
def ur (T:Tx K mg):Sp:=di T (fun dd c rest=>∃(d kind:Int) (n_wa:Nat) (wa:List Int) (n_wb:Nat) (wb:List Int),dd=d::kind::(n_wa:Int)::(wa++((n_wb:Int)::(wb++rest)))∧wa.length=n_wa∧wb.length=n_wb∧c= .define d kind wa wb∧j7 wa∧j7 wb∧wa.length≤7500)
theorem GB (T:Tx K mg):dO P w base T.m5 11 (ur T):=by
 refine T.m5.okA lx ?_
 rintro _ A _ s H _ Q E hr
 refine jv ?_
 rintro G b r l a as S ns pos c rest rfl W U1 kk
 revert U1
 refine Bg ?_
 rintro d kind n_wa wa n_wb wb hd hl_wa hl_wb rfl hza hzb hla
 refine⟨_,(ac (aZ 2 lx.nd (eO (pv 1) T.au (ah T) hr))
   (ac (aZ 3 lx.nd (eO (pv 1) T.au (ah T) hr))
   (ac (aZ 4 lx.nd (eO (pv 1) T.dj (dQ T) hr))
   (ac (aZ 5 lx.nd (eO (pv 1) T.dj (dQ T) hr))
   (ac (aT (aV (aS (bj T.fN (fc T) hr (ab (pv 2) ad)))) (ae (aj (aI (ab (fk T.k9) ad)))) aG)
   (ae (aj (bj T.Dg (yS T) hr (ab (pv 0) (ab (pv 2) (ab (bj T.zS (E9 T) hr (ab (pv 3) (ab (pv 4) (ab (pv 5) ad)))) ad))))))))))),?_⟩
 have W0:=W;have ki0:=KI.refl H;have hd0:=hd
 refine aN W0 hd0 ki0 rfl fun H1 W1 hd1 ki1=>?_
 refine aN W1 hd1 ki1 rfl fun H2 W2 hd2 ki2=>?_
 obtain⟨dr2,hr2⟩:=id W2.rd
 obtain⟨g3,hq3⟩:=lg hd2
 refine gk (fun e3 hd3 le3=>?_) (xQ hq3 g3 hl_wa)
 refine cP _ rfl r dr2 _ rfl hr2 rfl (iK r a _ n_wa ns rfl ⟨dr2,hr2⟩ W2.sq g3 le3 fun H3 p_wa hr3 hp_wa kp3 np_wa=>?_)
 rw [e3] at hp_wa
 have W3:=W2.reader hr3 kp3;have ki3:=ki2.trans (KI.keep1 kp3 hr2);obtain⟨dr3,hr3⟩:=hr3
 obtain⟨g4,hq4⟩:=lg hd3
 refine gk (fun e4 hd4 le4=>?_) (xQ hq4 g4 hl_wb)
 refine cP _ rfl r dr3 _ rfl hr3 rfl (iK r a _ n_wb ns rfl ⟨dr3,hr3⟩ W3.sq g4 le4 fun H4 p_wb hr4 hp_wb kp4 np_wb=>?_)
 rw [e4] at hp_wb
 have W4:=W3.reader hr4 kp4;have ki4:=ki3.trans (KI.keep1 kp4 hr3);obtain⟨dr4,hr4⟩:=hr4
 have es:=Hj S d kind wa wb
 rw [cG] at es
 refine bd _ rfl d rfl _ rfl (aX (fun h1=>?_) (fun h1=>?_))
 ·rw [if_pos (dP (eG h1))] at es
  exact⟨bC,aF kk W4 hd4 ki4 es⟩
 ·have hk:=cj h1
  rw [aE hk,if_neg ()] at es
  have hpa:=kp4.seq (K:=K) hr3 (a5.of hp_wa)
  have hpa4:H4 p_wa=some (.lst (wa.map V.int)):=kp4 _ _ hp_wa (bg hp_wa hr3 (by intro z;cases z))
  have nal:p_wa ∉ G.av l:=fun m=>by
   have z:=Bl W2 p_wa m
   exact z np_wa
  refine DQ _ rfl _ rfl _ rfl _ rfl _ rfl (G.av l) p_wa (j5 p_wb kind wa wb rfl hpa4 (a5.of hp_wb) hza hzb (b8 ⋯ nal (Bl W4) fun v H5 o5 s5=>?_))
  have W5:=W4.same s5
  refine wQ G b r l a as S ns (j4 _ d v _ rfl W5 hk o5 fun H6 p6 S6 zs e6 W6 hp6 ki6 nf6=>?_)
  have es2:=es.trans e6
  have kifin:=ki4.trans ((KI.same s5).trans ki6)
  rw [es2] at kk
  exact kk H6 p6 as _ W6 hd4 hp6 kifin (fun x xs hx=>nf6 x xs ((ki4.trans (KI.same s5)) x xs hx))
def ut (T:Tx K mg):Sp:=di T (fun dd c rest=>∃d,dd=d::rest∧c= .forget d)
theorem GE (T:Tx K mg):dO P w base T.m6 4 (ut T):=by
 refine T.m6.okA uh ?_
 rintro _ A _ s H _ Q E hr
 refine jv ?_
 rintro G b r l a as S ns pos c rest rfl W U1 kk
 revert U1
 refine a4 ?_
 rintro d hd rfl
 refine⟨_,(ac (aZ 2 uh.nd (eO (pv 1) T.au (ah T) hr))
   (ac (aZ 3 uh.nd (bj T.cq (ck T) hr (ab (pv 0) (ab (pv 2) ad))))
   (ac (aT (aR ll (pv 3) am (aY _)) (ae (aj (aI (ab (pv 3) ad)))) aG)
   (ac (qK de (qH (ao (pv 0) rfl) (pv 2) iJ))
   (ae (aj (aI (ab am ad)))))))),?_⟩
 have W0:=W;have ki0:=KI.refl H;have hd0:=hd
 refine aN W0 hd0 ki0 rfl fun H1 W1 hd1 ki1=>?_
 have es:=Hk S d
 refine bD _ rfl _ rfl (wQ G b r l a as S ns (bV _ d rfl W1 ?_))
 rcases gG S d with⟨h,e⟩ | ⟨h,h2,e⟩ | ⟨h,x,h2,e⟩
 ·rw [e,lj.1 h] at*
  refine⟨_,rfl,_,_,rfl,rfl,_,rfl,_,rfl,?_⟩
  exact⟨bC,aF kk W1 hd1 ki1 es⟩
 ·rw [e] at*
  rw [lj.2.1 h h2] at es
  refine⟨_,rfl,_,_,rfl,rfl,_,rfl,_,rfl,?_⟩
  exact⟨bC,aF kk W1 hd1 ki1 es⟩
 ·rw [e] at*
  rw [lj.2.2 h x h2] at es
  refine io (fun vs v g2 g3 g4 g5 g6=>?_) (W1.dGet h)
  obtain⟨db,hb⟩:=id W1.bank
  have W2:=W1.hold (d:=d.toNat) ⋯ g2 (v:= .non) (x:=none) rfl
  refine⟨_,rfl,_,_,rfl,rfl,_,rfl,_,rfl,b,_,db,_,_,rfl,hb,T.aQ.cl,T.aQ.no _ (),rfl,_,rfl,G.l2,_,_,d.toNat,rfl,rfl,g2,qo ⋯ ⋯,?_⟩
  exact⟨bC,aF kk W2 hd1 (ki1.trans (W1.kiHold _)) es⟩
open Vbdeab (Class Dist)
theorem Ey (c:Class):(shownClass c).length=6:=by cases c<;>rfl
theorem BJ (d:Dist):(d.flatMap fun c=>shownClass c.2).length=6*d.length:=by
 induction d with
 | nil=>rfl
 | cons c r ih=>rw [HF,bZ,ih,Ey,d8];omega
theorem Ki {d:Dist} {i:Nat} {c:Nat×Class} (h:d[i]?=some c):((d.take (i+1)).flatMap fun c=>shownClass c.2)=((d.take i).flatMap fun c=>shownClass c.2)++shownClass c.2:=by
 rw [Ch.bA h,List.flatMap_append]
 simp
def zK (T:Tx K mg):Sp:=di T (fun dd c rest=>∃d,dd=d::rest∧c= .told d)
theorem KR (T:Tx K mg):dO P w base T.xg 4 (zK T):=by
 refine T.xg.okA mh ?_
 rintro _ A _ s H _ Q E hr
 refine jv ?_
 rintro G b r l a as S ns pos c rest rfl W U1 kk
 refine a4 ?_ U1
 rintro d hd rfl
 refine⟨_,(ac (aZ 2 mh.nd (eO (pv 1) T.au (ah T) hr))
   (ac (aZ 3 mh.nd (bj T.cq (ck T) hr (ab (pv 0) (ab (pv 2) ad))))
   (ac (aT (aR ll (pv 3) am (aY _)) (ae (aj (aI (ab (pv 3) ad)))) aG)
   (ac (aZ 4 mh.nd (ip (ao (pv 0) rfl) (pv 2)))
   (ac (aZ 5 mh.nd (aI ad))
   (ac (eh cM rfl (cF (ao (pv 4) rfl)) (kZ 6 mh.nd) (ae (gw (rZ lM FM FN uW (pv 5) (ab (wp (eO (pv 6) T.iy (qy T) hr) (eO (pv 6) T.ir (qv T) hr)) ad)))))
   (ae (aj (aB fe (aB fe (aB fe (aI (ab am (ab (a9 aW (by rfl) T.gx eA (ab (ao (pv 4) rfl) ad)) ad))) (ao (pv 4) rfl)) (aI (ab (a9 aW (by rfl) T.gx eA (ab (pv 5) ad)) ad))) (pv 5)))))))))),?_⟩
 have W0:=W;have ki0:=KI.refl H;have hd0:=hd
 refine aN W0 hd0 ki0 rfl fun H1 W1 hd1 ki1=>?_
 have es:=Le S d
 refine bD _ rfl _ rfl (wQ G b r l a as S ns (bV _ d rfl W1 ?_))
 rcases gG S d with⟨h,e⟩ | ⟨h,h2,e⟩ | ⟨h,x,h2,e⟩
 ·rw [e,lj.1 h] at*
  refine⟨_,rfl,_,_,rfl,rfl,_,rfl,_,rfl,?_⟩
  exact⟨bC,aF kk W1 hd1 ki1 es⟩
 ·rw [e] at*
  rw [lj.2.1 h h2] at es
  refine⟨_,rfl,_,_,rfl,rfl,_,rfl,_,rfl,?_⟩
  exact⟨bC,aF kk W1 hd1 ki1 es⟩
 ·rw [e] at*
  rw [lj.2.2 h x h2] at es
  refine io (fun vs v g2 g3 g4 g5 g6=>?_) (W1.dGet h)
  rw [h2] at g6
  refine a4 ?_ g6
  rintro z rfl
  refine lC fun dz wl sl bl el aa D=>?_
  obtain⟨db,hb⟩:=id W1.bank
  have dl:=D.ok.len2
  refine⟨_,rfl,_,_,rfl,rfl,_,rfl,_,rfl,b,_,db,_,_,rfl,hb,T.aQ.cl,T.aQ.no _ (),rfl,_,rfl,G.l2,_,_,_,rfl,rfl,a5.of g2,g5,bo _,fun N hN=>?_⟩
  have sN:=aC.laid (o:= .lst []) hN
  refine aM _ rfl z _ dz _ _ rfl (sN _ _ D.inst) T.ai.cl (T.ai.no _ ()) rfl (df sl rfl ⟨_,a5.of (sN _ _ D.s)⟩ (eE (xs:=aa.map V.ref) (fun i σ H'=>i≤x.length∧∃(v1:Option V),σ= [some (.ref b),some (.ref r),some (.int d),some (.int 0),some (.ref z),some (.ref N),v1]∧H' N=some (.lst (((x.take i).flatMap fun c=>shownClass c.2).map V.int))∧aC H1 H') (mU (bo _) none rfl af sN) (fun i σ H' _ ⟨_,_,_,_,s⟩=>a5.of (s _ _ D.s)) ?_ ?_))
  ·rintro i u σ H2 hu
   refine pQ ?_
   rintro hi v1 rfl hN2 s2
   refine a4 ?_ (gH hu)
   rintro y hy rfl
   have hi':i<x.length:=by rw [←D.len];exact(cg.mp hy).1
   obtain⟨c,hc⟩:∃c,x[i]?=some c:=⟨_,bH hi'⟩
   have hsh:=(D.sh i y c hy hc).same s2
   have fin:∀p,H2 p=none→∃l' b' xs zs,V.ref N= .ref l'∧ [V.ref p]= [V.ref b']∧(bT H2 p (.lst ((shownClass c.2).map V.int))) l'=some (.lst xs)∧(bT H2 p (.lst ((shownClass c.2).map V.int))) b'=some (.lst zs)∧xs.length+zs.length≤sizeLine∧(i+1≤x.length∧∃(u1:Option V),[some (.ref b),some (.ref r),some (.int d),some (.int 0),some (.ref z),some (.ref N),some (V.ref y)]= [some (.ref b),some (.ref r),some (.int d),some (.int 0),some (.ref z),some (.ref N),u1]∧(bT (bT H2 p (.lst ((shownClass c.2).map V.int))) l' (.lst (xs++zs))) N=some (.lst (((x.take (i+1)).flatMap fun c=>shownClass c.2).map V.int))∧aC H1 (bT (bT H2 p (.lst ((shownClass c.2).map V.int))) l' (.lst (xs++zs)))):=fun p hp=>by
    have sp:=aC.laid (o:= .lst ((shownClass c.2).map V.int)) hp
    have hfl:=BJ (x.take i)
    rw [ii] at hfl
    refine j5 N p _ _ rfl rfl (sp _ _ hN2) af ?_ (mU hi' _ rfl ?_ fun q o e=>?_)
    ·rw [aD,aD,hfl,Ey]
     show _≤2 ^ 24
     omega
    ·rw [af,Ki hc,dB]
    ·rw [ak (aw e hN)]
     exact sp _ _ (s2 _ _ e)
   obtain⟨cw,cc⟩:=c
   cases cc with
   | line p q=>
    refine d7 (fun dy ax ay e1 e2 e3=>?_) hsh
    exact df _ rfl (.inl ⟨rfl,_,a5.of hN2⟩) (.inl (cP _ rfl y dy _ rfl e1 rfl (h9 y p q rfl hsh fin)))
   | comb p q n=>
    refine d7 (fun dy ax ay e1 e2 e3=>?_) hsh
    exact df _ rfl (.inl ⟨rfl,_,a5.of hN2⟩) (.inr (cP _ rfl y dy _ rfl e1 rfl ⟨y,(h9 p q n rfl hsh fin)⟩))
  ·rintro σ H2
   refine pQ ?_
   rintro hi v1 rfl hN2 s2
   rw [aD,D.len,jU] at hN2
   have W2:=W1.same s2
   have lw:(dJ (x.map fun c=>c.1)).length=x.length:=by rw [bf,aD]
   have lf:(((x.flatMap fun c=>shownClass c.2)).map V.int).length=6*x.length:=by rw [aD,BJ]
   refine aM _ rfl z _ dz _ _ rfl (s2 _ _ D.inst) T.ai.cl (T.ai.no _ ()) rfl (bR wl _ rfl (.inl (a5.of (s2 _ _ D.w))) rm fun A1 hA1=>?_)
   have sa:=aC.laid (o:= .lst [V.int 0,V.int ((dJ (x.map fun c=>c.1)).length:Int)]) hA1
   refine aM _ rfl z _ dz _ _ rfl (sa _ _ (s2 _ _ D.inst)) T.ai.cl (T.ai.no _ ()) rfl (j5 A1 wl _ _ rfl rfl af (sa _ _ (s2 _ _ D.w)) (by rw [lw];show 2+x.length≤2 ^ 24;omega) fun A2 hA2=>?_)
   have sb:=aC.laid (o:= .lst ([V.int 0,V.int ((dJ (x.map fun c=>c.1)).length:Int)]++dJ (x.map fun c=>c.1))) hA2
   have hN3:=sb _ _ (sa _ _ hN2)
   refine eu _ rfl N _ rfl (.inl (a5.of hN3)) bC fun A3 hA3=>?_
   have sc:=aC.laid (o:= .lst [V.int ((((x.flatMap fun c=>shownClass c.2)).map V.int).length:Int)]) hA3
   refine j5 A2 A3 _ _ rfl rfl (sc _ _ af) af (by rw [bZ,lw];show 2+x.length+1≤2 ^ 24;omega) fun A4 hA4=>?_
   have sd:=aC.laid (o:= .lst ([V.int 0,V.int ((dJ (x.map fun c=>c.1)).length:Int)]++dJ (x.map fun c=>c.1)++ [V.int ((((x.flatMap fun c=>shownClass c.2)).map V.int).length:Int)])) hA4
   refine gP _ rfl A4 N _ _ rfl rfl af (sd _ _ (sc _ _ hN3)) (by rw [bZ,bZ,lw,lf];show 2+x.length+1+6*x.length≤2 ^ 24;omega) ?_
   have SS:=((sa.trans sb).trans sc).trans sd
   have W3:=W2.same SS
   have ev:(0:Int)::(shownRow (toldRows x).1++shownRow (toldRows x).2)= [0,((dJ (x.map fun c=>c.1)).length:Int)]++nats (x.map fun c=>c.1)++ [((((x.flatMap fun c=>shownClass c.2)).map V.int).length:Int)]++(x.flatMap fun c=>shownClass c.2):=by
    unfold toldRows shownRow
    rw [tM,lw,lf,BJ,aD]
    simp
   have fin:=aF kk W3 hd1 (ki1.trans (KI.same (s2.trans SS))) es
   rw [ev] at fin
   rw [dB,dB,dB] at fin
   exact fin
def wC (T:Tx K mg):Sp:=di T (fun dd c rest=>∃d e f v w,dd=d::e::f::v::w::rest∧c= .blend d e f v w)
theorem Iq (T:Tx K mg):dO P w base T.rE 7 (wC T):=by
 refine T.rE.okA gL ?_
 rintro _ A _ s H _ Q E hr
 refine jv ?_
 rintro G b r l a as S ns pos c rest rfl W U1 kk
 refine Bf (fun d e=>?_) U1
 refine tq ?_
 rintro f v w' hd rfl
 refine⟨_,(ac (aZ 2 gL.nd (eO (pv 1) T.au (ah T) hr))
   (ac (aZ 3 gL.nd (eO (pv 1) T.au (ah T) hr))
   (ac (aZ 4 gL.nd (eO (pv 1) T.au (ah T) hr))
   (ac (aZ 5 gL.nd (eO (pv 1) T.au (ah T) hr))
   (ac (aZ 6 gL.nd (eO (pv 1) T.au (ah T) hr))
   (ac (aT (lr (ic (aV (aS (bj T.fN (fc T) hr (ab (pv 2) ad)))) (ic (aV (aS (bj T.fN (fc T) hr (ab (pv 3) ad)))) (ik (aV (aS (bj T.fN (fc T) hr (ab (pv 4) ad)))))))) (ae (aj (aI (ab (fk T.k9) ad)))) aG)
   (ac (aZ 7 gL.nd (ip (ao (pv 0) rfl) (pv 3)))
   (ac (aZ 8 gL.nd (ip (ao (pv 0) rfl) (pv 4)))
   (ac (aT (lr (ic (aR kH (pv 7) de (aY _)) (ik (aR kH (pv 8) de (aY _))))) (ae (aj (aI (ab (fk T.oN) ad)))) aG)
   (ac (aT (lr (ic (aV (aS (bj T.bW (a8 T) hr (ab (pv 5) (ab am (ab (fk T.oi) ad)))))) (ic (aV (aS (bj T.bW (a8 T) hr (ab (pv 6) (ab am (ab (fk T.oi) ad)))))) (ik (aR rY (aB b7 (pv 5) (pv 6)) am (aY _)))))) (ae (aj (aI (ab (fk T.lR) ad)))) aG)
   (ae (aj (bj T.Dg (yS T) hr (ab (pv 0) (ab (pv 2) (ab (bj T.zR (E8 T) hr (ab (pv 7) (ab (pv 5) (ab (pv 8) (ab (pv 6) ad))))) ad)))))))))))))))),?_⟩
 have W0:=W;have ki0:=KI.refl H;have hd0:=hd
 refine aN W0 hd0 ki0 rfl fun H1 W1 hd1 ki1=>?_
 refine aN W1 hd1 ki1 rfl fun H2 W2 hd2 ki2=>?_
 refine aN W2 hd2 ki2 rfl fun H3 W3 hd3 ki3=>?_
 refine aN W3 hd3 ki3 rfl fun H4 W4 hd4 ki4=>?_
 refine aN W4 hd4 ki4 rfl fun H5 W5 hd5 ki5=>?_
 have es:=IO S d e f v w'
 rw [cG,cG,cG] at es
 refine bd _ rfl d rfl _ rfl (aX (fun h1=>?_) (fun h1=>?_))
 ·rw [if_pos (.inl (dP (eG h1)))] at es
  refine jC ?_
  exact⟨bC,aF kk W5 hd5 ki5 es⟩
 refine bd _ rfl e rfl _ rfl (aX (fun h2=>?_) (fun h2=>?_))
 ·rw [if_pos (.inr (.inl (dP (eG h2))))] at es
  refine jC ?_
  exact⟨bC,aF kk W5 hd5 ki5 es⟩
 refine bd _ rfl f rfl _ rfl (aX (fun h3=>?_) (fun h3=>?_))
 ·rw [if_pos (.inr (.inr (dP (eG h3))))] at es
  exact⟨bC,aF kk W5 hd5 ki5 es⟩
 have k1:=cj h1
 have k2:=cj h2
 have k3:=cj h3
 rw [aE k1,aE k2,aE k3,if_neg ()] at es
 refine io (fun vs v1 g2 g3 g4 g5 g6=>?_) (W5.dGet k2)
 refine io (fun vs' v2 g2' g3' g4' g5' g6'=>?_) (W5.dGet k3)
 obtain⟨db,hb⟩:=id W5.bank
 refine aM _ rfl b _ db _ _ rfl hb T.aQ.cl (T.aQ.no _ ()) rfl (bQ _ rfl G.l2 _ _ _ rfl rfl (a5.of g2) g5 ?_)
 refine aM _ rfl b _ db _ _ rfl hb T.aQ.cl (T.aQ.no _ ()) rfl (bQ _ rfl G.l2 _ _ _ rfl rfl (a5.of g2') g5' ?_)
 cases hx:S.dist e.toNat with
 | none=>
  rw [hx] at g6 es
  obtain rfl:v1= .non:=g6
  refine eQ _ rfl rfl _ rfl (jC ?_)
  exact⟨bC,aF kk W5 hd5 ki5 es⟩
 | some x=>
  rw [hx] at g6 es
  refine a4 ?_ g6
  rintro z1 rfl hz1
  cases hy:S.dist f.toNat with
  | none=>
   rw [hy] at g6' es
   obtain rfl:v2= .non:=g6'
   refine eQ _ rfl rfl _ rfl (eQ _ rfl rfl _ rfl ?_)
   exact⟨bC,aF kk W5 hd5 ki5 es⟩
  | some y=>
   rw [hy] at g6' es
   refine a4 ?_ g6'
   rintro z2 rfl hz2
   simp only [cx] at es
   refine eQ _ rfl rfl _ rfl (eQ _ rfl rfl _ rfl (fB _ rfl v 0 (bD 1000000000 rfl _ rfl (aX (fun h4=>?_) (fun h4=>?_)))))
   ·rw [if_pos (.inl (dP (eG h4)))] at es
    refine jC ?_
    exact⟨bC,aF kk W5 hd5 ki5 es⟩
   refine fB _ rfl w' 0 (bD 1000000000 rfl _ rfl (aX (fun h5=>?_) (fun h5=>?_)))
   ·rw [if_pos (.inr (.inl (dP (eG h5))))] at es
    refine jC ?_
    exact⟨bC,aF kk W5 hd5 ki5 es⟩
   have k4:=cj h4
   have k5:=cj h5
   refine eY _ rfl _ rfl _ _ rfl rfl (dt rfl _ rfl (aX (fun h6=>?_) (fun h6=>?_)))
   ·have h6':v+w'=0:=V.int.inj (bn h6)
    rw [if_pos (.inr (.inr ⟨⋯,⋯⟩))] at es
    exact⟨bC,aF kk W5 hd5 ki5 es⟩
   ·have h6':¬v+w'=0:=fun q=>h6 (aE (cA V.int q))
    rw [if_neg (by rw [aE k4,aE k5];simp;omega)] at es
    refine bJ _ rfl (DQ _ rfl _ rfl _ rfl _ rfl _ rfl (G.av l) z1 (iK z2 x y v.toNat w'.toNat (by rw [cE k4.1,cE k5.1];rfl) hz1 hz2 ⋯ ⋯ ⟨Bl W5,(fun u H6 o6 s6=>?_)⟩))
    have W6:=W5.same s6
    refine wQ G b r l a as S ns (j4 _ d u _ rfl W6 k1 o6 fun H7 p7 S7 zs e7 W7 hp7 ki7 nf7=>?_)
    rw [es.trans e7] at kk
    exact kk H7 p7 as _ W7 hd5 hp7 (ki5.trans ((KI.same s6).trans ki7)) (fun q xs hq=>nf7 q xs ((ki5.trans (KI.same s6)) q xs hq))
def zx (T:Tx K mg):Sp:=di T (fun dd c rest=>∃d e p q t s,dd=d::e::p::q::t::s::rest∧c= .bend d e p q t s∧Sz 140 q∧Sz 140 s)
theorem KD (T:Tx K mg):dO P w base T.wZ 8 (zx T):=by
 refine T.wZ.okA fX ?_
 rintro _ A _ s H _ Q E hr
 refine jv ?_
 rintro G b r l a as S ns pos c rest rfl W U1 kk
 refine Bf (fun d e=>?_) U1
 refine oF ?_
 rintro p q t s' hd rfl qz sz
 refine⟨_,(ac (aZ 2 fX.nd (eO (pv 1) T.au (ah T) hr))
   (ac (aZ 3 fX.nd (eO (pv 1) T.au (ah T) hr))
   (ac (aZ 4 fX.nd (eO (pv 1) T.au (ah T) hr))
   (ac (aZ 5 fX.nd (eO (pv 1) T.au (ah T) hr))
   (ac (aZ 6 fX.nd (eO (pv 1) T.au (ah T) hr))
   (ac (aZ 7 fX.nd (eO (pv 1) T.au (ah T) hr))
   (ac (aT (lr (ic (aV (aS (bj T.fN (fc T) hr (ab (pv 2) ad)))) (ik (aV (aS (bj T.fN (fc T) hr (ab (pv 3) ad))))))) (ae (aj (aI (ab (fk T.k9) ad)))) aG)
   (ac (aZ 8 fX.nd (ip (ao (pv 0) rfl) (pv 3)))
   (ac (aT (aR kH (pv 8) de (aY _)) (ae (aj (aI (ab (fk T.oN) ad)))) aG)
   (ac (aZ 9 fX.nd (bj T.cN (cr T) hr (ab (pv 4) (ab (pv 5) ad))))
   (ac (aZ 10 fX.nd (bj T.cN (cr T) hr (ab (pv 6) (ab (pv 7) ad))))
   (ac (aT (lr (ic (aR kH (pv 9) de (aY _)) (ik (aR kH (pv 10) de (aY _))))) (ae (aj (aI (ab (fk T.k8) ad)))) aG)
   (ae (aj (bj T.Dg (yS T) hr (ab (pv 0) (ab (pv 2) (ab (bj T.Je (KE T) hr (ab (pv 8) (ab (pv 9) (ab (pv 10) ad)))) ad)))))))))))))))))),?_⟩
 have W0:=W;have ki0:=KI.refl H;have hd0:=hd
 refine aN W0 hd0 ki0 rfl fun H1 W1 hd1 ki1=>?_
 refine aN W1 hd1 ki1 rfl fun H2 W2 hd2 ki2=>?_
 refine aN W2 hd2 ki2 rfl fun H3 W3 hd3 ki3=>?_
 refine aN W3 hd3 ki3 rfl fun H4 W4 hd4 ki4=>?_
 refine aN W4 hd4 ki4 rfl fun H5 W5 hd5 ki5=>?_
 refine aN W5 hd5 ki5 rfl fun H6 W6 hd6 ki6=>?_
 have es:=K4 S d e p q t s'
 rw [cG,cG] at es
 refine bd _ rfl d rfl _ rfl (aX (fun h1=>?_) (fun h1=>?_))
 ·rw [if_pos (.inl (dP (eG h1)))] at es
  refine jC ?_
  exact⟨bC,aF kk W6 hd6 ki6 es⟩
 refine bd _ rfl e rfl _ rfl (aX (fun h2=>?_) (fun h2=>?_))
 ·rw [if_pos (.inr (dP (eG h2)))] at es
  exact⟨bC,aF kk W6 hd6 ki6 es⟩
 have k1:=cj h1
 have k2:=cj h2
 rw [aE k1,aE k2,if_neg ()] at es
 refine io (fun vs v1 g2 g3 g4 g5 g6=>?_) (W6.dGet k2)
 obtain⟨db,hb⟩:=id W6.bank
 refine aM _ rfl b _ db _ _ rfl hb T.aQ.cl (T.aQ.no _ ()) rfl (bQ _ rfl G.l2 _ _ _ rfl rfl (a5.of g2) g5 ?_)
 cases hx:S.dist e.toNat with
 | none=>
  rw [hx] at g6 es
  obtain rfl:v1= .non:=g6
  refine eQ _ rfl rfl _ rfl ?_
  exact⟨bC,aF kk W6 hd6 ki6 es⟩
 | some x=>
  rw [hx] at g6 es
  refine a4 ?_ g6
  rintro z1 rfl hz1
  refine eQ _ rfl rfl _ rfl (eY _ rfl _ rfl p q rfl (qz.mono ()) fun u1 H7 o7 s7=>?_)
  refine eY _ rfl _ rfl t s' rfl (sz.mono ()) fun u2 H8 o8 s8=>?_
  have S8:=s7.trans s8
  have W8:=W6.same S8
  have ki8:=ki6.trans (KI.same S8)
  cases hf:Vbdeab.fraction p q with
  | none=>
   rw [hf] at o7 es
   obtain rfl:u1= .non:=o7
   refine eQ _ rfl rfl _ rfl (jC ?_)
   exact⟨bC,aF kk W8 hd6 ki8 es⟩
  | some f=>
   rw [hf] at o7 es
   refine a4 ?_ o7
   rintro y1 rfl hy1
   cases hg:Vbdeab.fraction t s' with
   | none=>
    rw [hg] at o8 es
    obtain rfl:u2= .non:=o8
    refine eQ _ rfl rfl _ rfl (eQ _ rfl rfl _ rfl ?_)
    exact⟨bC,aF kk W8 hd6 ki8 es⟩
   | some g=>
    rw [hg] at o8 es
    refine a4 ?_ o8
    rintro y2 rfl hy2
    refine eQ _ rfl rfl _ rfl (eQ _ rfl rfl _ rfl (DQ _ rfl _ rfl _ rfl _ rfl _ rfl (G.av l) z1 (iK y1 y2 x f g rfl (hz1.same S8) (hy1.same s8) hy2 (nv hf) (fi (nv hg) (Bl W8) fun u H9 o9 s9=>?_))))
    have W9:=W8.same s9
    refine wQ G b r l a as S ns (j4 _ d u _ rfl W9 k1 o9 fun H10 p10 S10 zs e10 W10 hp10 ki10 nf10=>?_)
    rw [es.trans e10] at kk
    exact kk H10 p10 as _ W10 hd6 hp10 (ki8.trans ((KI.same s9).trans ki10)) (fun q xs hq=>nf10 q xs ((ki8.trans (KI.same s9)) q xs hq))
open Vbdeab (Class Dist)
theorem IR (S:State) (d u:Int):Vbdeab.step S (.value d u)=onDist S d fun x=>if u<0∨(Vbdeab.M:Int)≤u then(S,[-11]) else(S,0::shownQ (Vbdeab.value x u.toNat)):=by rw [Vbdeab.step]
theorem Ho (S:State) (d:Int):Vbdeab.step S (.shares d)=onDist S d fun x=>(S,0::shownRow (nats (Vbdeab.shares x))):=by rw [Vbdeab.step]
theorem FF (S:State) (d:Int):Vbdeab.step S (.moments d)=onDist S d fun x=>(S,0::(shownQ (Vbdeab.mean x)++(shownQ (variance x)++(shownQ (Vbdeab.least x)++shownQ (Vbdeab.most x))))):=by rw [Vbdeab.step]
theorem IN (S:State) (d p q t:Int):Vbdeab.step S (.below d p q t)=onDist S d fun x=>match Vbdeab.fraction p q with
  | none=>(S,[-5])
  | some v=>if within t 0 1=false then(S,[-5]) else(S,0::shownQ (Vbdeab.below (decide (t=1)) v x)):=by
 rw [Vbdeab.step]
 rfl
theorem K8 (S:State) (d p q t:Int):Vbdeab.step S (.hits d p q t)=onDist S d fun x=>match Vbdeab.fraction p q with
  | none=>(S,[-5])
  | some v=>if within t 0 1=false then(S,[-5]) else(S,[0,(Vbdeab.hits (decide (t=1)) v x:Nat)]):=by
 rw [Vbdeab.step]
 rfl
theorem CB (d:Dist):(Vbdeab.shares d).length=d.length:=by
 have:∀(l:Dist) (W b:Nat),(sharesFrom W l b).length=l.length:=fun l=>by
  induction l with
  | nil=>intro W b;rfl
  | cons c r ih=>intro W b;obtain⟨w,k⟩:=c;show(sharesFrom W r _).length+1=_;rw [ih];rfl
 exact this _ _ _
theorem JR {t:Int} (h:0≤t∧t≤1):t=Fr.nk (decide (t=1)):=by
 unfold Fr.nk
 by_cases c:t=1
 ·rw [aE c,if_pos rfl];exact c
 ·rw [br c,if_neg ()];omega
def zL (T:Tx K mg):Sp:=fun vs H Q _=>∃(a:Addr) (q:Vbdeab.Q),vs= [.ref a]∧j2 T H a q∧∀p,H p=none→Q (.ref p) (bT H p (.lst ((shownQ q).map V.int)))
theorem g8 (T:Tx K mg):dO P w base T.f9 1 (zL T):=by
 refine T.f9.okA zl ?_
 rintro _ A _ s H _ Q E hr
 refine yw ?_
 rintro a q rfl U1 k
 obtain⟨dx,h1⟩:=U1
 refine⟨_,(ae (aj (aI (ab (ao (pv 0) rfl) (ab (ao (pv 0) rfl) ad))))),?_⟩
 exact aM _ rfl a _ dx _ _ rfl h1 T.aA.cl (T.aA.no _ ()) rfl (aM _ rfl a _ dx _ _ rfl h1 T.aA.cl (T.aA.no _ ()) rfl ⟨rm,k⟩)
def wL (T:Tx K mg):Sp:=di T (fun dd c rest=>∃d u,dd=d::u::rest∧c= .value d u)
theorem Iv (T:Tx K mg):dO P w base T.vh 6 (wL T):=by
 refine T.vh.okA qT ?_
 rintro _ A _ s H _ Q E hr
 refine jv ?_
 rintro G b r l a as S ns pos c rest rfl W U1 kk
 refine rB ?_ U1
 rintro d u hd rfl
 refine⟨_,(ac (aZ 2 qT.nd (eO (pv 1) T.au (ah T) hr))
   (ac (aZ 3 qT.nd (eO (pv 1) T.au (ah T) hr))
   (ac (aZ 4 qT.nd (bj T.cq (ck T) hr (ab (pv 0) (ab (pv 2) ad))))
   (ac (aT (aR ll (pv 4) am (aY _)) (ae (aj (aI (ab (pv 4) ad)))) aG)
   (ac (aT (aV (aS (bj T.bW (a8 T) hr (ab (pv 3) (ab am (ab (aB cb (fk T.dN) am) ad)))))) (ae (aj (aI (ab (fk T.HQ) ad)))) aG)
   (ae (aj (aB fe (aI (ab am ad)) (bj T.f9 (g8 T) hr (ab (eO (zN (ip (ao (pv 0) rfl) (pv 2)) T.dY (gB T) hr (ab (pv 3) ad)) T.eM (eW T) hr) ad)))))))))),?_⟩
 have W0:=W;have ki0:=KI.refl H;have hd0:=hd
 refine aN W0 hd0 ki0 rfl fun H1 W1 hd1 ki1=>?_
 refine aN W1 hd1 ki1 rfl fun H2 W2 hd2 ki2=>?_
 have es:=IR S d u
 refine bD _ rfl _ rfl (wQ G b r l a as S ns (bV _ d rfl W2 ?_))
 rcases gG S d with⟨h,e⟩ | ⟨h,h2,e⟩ | ⟨h,x,h2,e⟩
 ·rw [e,lj.1 h] at*
  refine⟨_,rfl,_,_,rfl,rfl,_,rfl,_,rfl,?_⟩
  exact⟨bC,aF kk W2 hd2 ki2 es⟩
 ·rw [e] at*
  rw [lj.2.1 h h2] at es
  refine⟨_,rfl,_,_,rfl,rfl,_,rfl,_,rfl,?_⟩
  exact⟨bC,aF kk W2 hd2 ki2 es⟩
 ·rw [e] at*
  rw [lj.2.2 h x h2] at es
  refine io (fun vs v g2 g3 g4 g5 g6=>?_) (W2.dGet h)
  rw [h2] at g6
  refine a4 ?_ g6
  rintro z rfl hz
  obtain⟨db,hb⟩:=id W2.bank
  have hM:(Vbdeab.M:Int)=4294967296:=rfl
  refine⟨_,rfl,_,_,rfl,rfl,_,rfl,_,rfl,_,_,rfl,rfl,u,0,4294967295,rfl,_,rfl,aX (fun h3=>?_) (fun h3=>?_)⟩
  ·rw [if_pos (by have:=eG h3;rw [hM];omega)] at es
   exact⟨bC,aF kk W2 hd2 ki2 es⟩
  ·have h3':=cj h3
   rw [if_neg (by rw [hM];omega)] at es
   refine lC (fun dz _ _ _ _ _ DD=>?_) hz
   refine⟨bC,fun A1 hA1=>?_⟩
   have sa:=aC.laid (o:= .lst [V.int 0]) hA1
   refine aM _ rfl b _ db _ _ rfl (sa _ _ hb) T.aQ.cl (T.aQ.no _ ()) rfl (bQ _ rfl G.l2 _ _ _ rfl rfl (a5.of (sa _ _ g2)) g5 (bY z dz _ rfl (sa _ _ DD.inst) rfl (fB _ rfl (G.av l) z (bR x u.toNat (by rw [cE h3'.1];rfl) (hz.same sa) ⋯ fun y H3 hy s3=>?_))))
   refine tp (fun n m hrt iz nz mz=>?_) hy
   obtain⟨dy,hrt'⟩:=id hrt
   refine bY y dy _ rfl hrt' rfl (i5 y n m rfl hrt iz.dpos (mz.mono ()) fun y2 H4 hy2 s4=>?_)
   rw [←iz.eq] at hy2
   refine bV y2 _ rfl hy2 fun A2 hA2=>?_
   have sb:=aC.laid (o:= .lst ((shownQ (Vbdeab.value x u.toNat)).map V.int)) hA2
   have SS:=((sa.trans s3).trans s4).trans sb
   refine j5 A1 A2 _ _ rfl rfl (sb _ _ (s4 _ _ (s3 _ _ af))) af (by show 1+2≤2 ^ 24;decide) ?_
   have fin:=aF kk (W2.same SS) hd2 (ki2.trans (KI.same SS)) es
   exact fin
def ux (T:Tx K mg):Sp:=di T (fun dd c rest=>∃d,dd=d::rest∧c= .shares d)
theorem GJ (T:Tx K mg):dO P w base T.pW 4 (ux T):=by
 refine T.pW.okA nZ ?_
 rintro _ A _ s H _ Q E hr
 refine jv ?_
 rintro G b r l a as S ns pos c rest rfl W U1 kk
 refine a4 ?_ U1
 rintro d hd rfl
 refine⟨_,(ac (aZ 2 nZ.nd (eO (pv 1) T.au (ah T) hr))
   (ac (aZ 3 nZ.nd (bj T.cq (ck T) hr (ab (pv 0) (ab (pv 2) ad))))
   (ac (aT (aR ll (pv 3) am (aY _)) (ae (aj (aI (ab (pv 3) ad)))) aG)
   (ac (aZ 4 nZ.nd (bj T.uS (B1 T) hr (ab (ip (ao (pv 0) rfl) (pv 2)) ad)))
   (ae (aj (aB fe (aI (ab am (ab (a9 aW (by rfl) T.gx eA (ab (pv 4) ad)) ad))) (pv 4)))))))),?_⟩
 have W0:=W;have ki0:=KI.refl H;have hd0:=hd
 refine aN W0 hd0 ki0 rfl fun H1 W1 hd1 ki1=>?_
 have es:=Ho S d
 refine bD _ rfl _ rfl (wQ G b r l a as S ns (bV _ d rfl W1 ?_))
 rcases gG S d with⟨h,e⟩ | ⟨h,h2,e⟩ | ⟨h,x,h2,e⟩
 ·rw [e,lj.1 h] at*
  refine⟨_,rfl,_,_,rfl,rfl,_,rfl,_,rfl,?_⟩
  exact⟨bC,aF kk W1 hd1 ki1 es⟩
 ·rw [e] at*
  rw [lj.2.1 h h2] at es
  refine⟨_,rfl,_,_,rfl,rfl,_,rfl,_,rfl,?_⟩
  exact⟨bC,aF kk W1 hd1 ki1 es⟩
 ·rw [e] at*
  rw [lj.2.2 h x h2] at es
  refine io (fun vs v g2 g3 g4 g5 g6=>?_) (W1.dGet h)
  rw [h2] at g6
  refine a4 ?_ g6
  rintro z rfl hz
  obtain⟨db,hb⟩:=id W1.bank
  refine⟨_,rfl,_,_,rfl,rfl,_,rfl,_,rfl,b,_,db,_,_,rfl,hb,T.aQ.cl,T.aQ.no _ (),rfl,_,rfl,G.l2,_,_,_,rfl,rfl,a5.of g2,g5,G.av l,z,x,rfl,hz,fun H2 p2 hp2 s2 n2=>?_⟩
  have ls:(dJ (Vbdeab.shares x)).length=x.length:=by rw [bf,CB]
  refine lC (fun _ _ _ _ _ _ DD=>?_) hz
  have dl:=DD.ok.len2
  refine eu _ rfl p2 _ rfl (.inl (a5.of hp2)) rm fun A1 hA1=>?_
  have sa:=aC.laid (o:= .lst [V.int 0,V.int ((dJ (Vbdeab.shares x)).length:Int)]) hA1
  refine gP _ rfl A1 p2 _ _ rfl rfl af (sa _ _ hp2) (by rw [ls];show 2+x.length≤2 ^ 24;omega) ?_
  have SS:=s2.trans sa
  have ev:(0:Int)::shownRow (nats (Vbdeab.shares x))= [0,((dJ (Vbdeab.shares x)).length:Int)]++nats (Vbdeab.shares x):=by
   unfold shownRow
   rw [tM,ls,CB]
   rfl
  rw [ev] at es
  exact aF kk (W1.same SS) hd1 (ki1.trans (KI.same SS)) es
def rj (T:Tx K mg):Sp:=di T (fun dd c rest=>∃d,dd=d::rest∧c= .moments d)
theorem Fa (T:Tx K mg):dO P w base T.ml 5 (rj T):=by
 refine T.ml.okA hU ?_
 rintro _ A _ s H _ Q E hr
 refine jv ?_
 rintro G b r l a as S ns pos c rest rfl W U1 kk
 refine a4 ?_ U1
 rintro d hd rfl
 refine⟨_,(ac (aZ 2 hU.nd (eO (pv 1) T.au (ah T) hr))
   (ac (aZ 3 hU.nd (bj T.cq (ck T) hr (ab (pv 0) (ab (pv 2) ad))))
   (ac (aT (aR ll (pv 3) am (aY _)) (ae (aj (aI (ab (pv 3) ad)))) aG)
   (ac (aZ 4 hU.nd (ip (ao (pv 0) rfl) (pv 2)))
   (ac (aZ 5 hU.nd (aI (ab am ad)))
   (ac (eh cM rfl (cF (aB fe (bj T.iC (qD T) hr (ab (pv 4) ad)) (bj T.gX (o0 T) hr (ab (pv 4) ad)))) (kZ 6 hU.nd) (ae (gw (rZ lM FM FN uW (pv 5) (ab (bj T.f9 (g8 T) hr (ab (pv 6) ad)) ad)))))
   (ae (aj (pv 5))))))))),?_⟩
 have W0:=W;have ki0:=KI.refl H;have hd0:=hd
 refine aN W0 hd0 ki0 rfl fun H1 W1 hd1 ki1=>?_
 have es:=FF S d
 refine bD _ rfl _ rfl (wQ G b r l a as S ns (bV _ d rfl W1 ?_))
 rcases gG S d with⟨h,e⟩ | ⟨h,h2,e⟩ | ⟨h,x,h2,e⟩
 ·rw [e,lj.1 h] at*
  refine⟨_,rfl,_,_,rfl,rfl,_,rfl,_,rfl,?_⟩
  exact⟨bC,aF kk W1 hd1 ki1 es⟩
 ·rw [e] at*
  rw [lj.2.1 h h2] at es
  refine⟨_,rfl,_,_,rfl,rfl,_,rfl,_,rfl,?_⟩
  exact⟨bC,aF kk W1 hd1 ki1 es⟩
 ·rw [e] at*
  rw [lj.2.2 h x h2] at es
  refine io (fun vs v g2 g3 g4 g5 g6=>?_) (W1.dGet h)
  rw [h2] at g6
  refine a4 ?_ g6
  rintro z rfl hz
  obtain⟨db,hb⟩:=id W1.bank
  refine⟨_,rfl,_,_,rfl,rfl,_,rfl,_,rfl,b,_,db,_,_,rfl,hb,T.aQ.cl,T.aQ.no _ (),rfl,_,rfl,G.l2,_,_,_,rfl,rfl,a5.of g2,g5,bC,fun N hN=>?_⟩
  have sN:=aC.laid (o:= .lst [V.int 0]) hN
  refine bJ _ rfl (h9 (G.av l) z x rfl (hz.same sN) fun H2 p2 x1 x2 hp2 hx1 hx2 s2=>?_)
  refine bJ _ rfl (h9 (G.av l) z x rfl ((hz.same sN).same s2) fun H3 p3 x3 x4 hp3 hx3 hx4 s3=>?_)
  refine j5 p2 p3 _ _ rfl rfl (s3 _ _ hp2) hp3 (by show 2+2≤2 ^ 24;decide) fun p4 hp4=>?_
  have s4:=aC.laid (o:= .lst ([V.ref x1,V.ref x2]++ [V.ref x3,V.ref x4])) hp4
  have S4:=(s2.trans s3).trans s4
  have hN4:=S4 _ _ (af (H:=H1) (a:=N) (o:= .lst [V.int 0]))
  have q1:j2 T (bT H3 p4 (.lst ([V.ref x1,V.ref x2]++ [V.ref x3,V.ref x4]))) x1 (Vbdeab.mean x):=(hx1.same s3).same s4
  have q2:j2 T (bT H3 p4 (.lst ([V.ref x1,V.ref x2]++ [V.ref x3,V.ref x4]))) x2 (variance x):=(hx2.same s3).same s4
  have q3:j2 T (bT H3 p4 (.lst ([V.ref x1,V.ref x2]++ [V.ref x3,V.ref x4]))) x3 (Vbdeab.least x):=hx3.same s4
  have q4:j2 T (bT H3 p4 (.lst ([V.ref x1,V.ref x2]++ [V.ref x3,V.ref x4]))) x4 (Vbdeab.most x):=hx4.same s4
  generalize hH4:bT H3 p4 (.lst ([V.ref x1,V.ref x2]++ [V.ref x3,V.ref x4]))=H4 at*
  have hp4':H4 p4=some (.lst ([x1,x2,x3,x4].map V.ref)):=by rw [←hH4,af];rfl
  have qs:∀(i:Nat) y,[x1,x2,x3,x4][i]?=some y→∃q,[Vbdeab.mean x,variance x,Vbdeab.least x,Vbdeab.most x][i]?=some q∧j2 T H4 y q:=fun i y hy=>by
   match i,hy with
   | 0,hy=>cases hy;exact⟨_,rfl,q1⟩
   | 1,hy=>cases hy;exact⟨_,rfl,q2⟩
   | 2,hy=>cases hy;exact⟨_,rfl,q3⟩
   | 3,hy=>cases hy;exact⟨_,rfl,q4⟩
   | _+4,hy=>cases hy
  refine df p4 rfl ⟨_,a5.of hp4'⟩ (eE (xs:= [x1,x2,x3,x4].map V.ref) (fun i σ H'=>i≤4∧∃(v1:Option V),σ= [some (.ref b),some (.ref r),some (.int d),some (.int 0),some (.ref z),some (.ref N),v1]∧H' N=some (.lst ((0::(([Vbdeab.mean x,variance x,Vbdeab.least x,Vbdeab.most x].take i).flatMap shownQ)).map V.int))∧(∀b o,H4 b=some o→b≠N→H' b=some o)) (mU (bo _) none rfl hN4 fun b o e _=>e) (fun i σ H' _ ⟨_,_,_,_,kp⟩=>a5.of (kp _ _ hp4' (fun q=>by rw [q,hN4] at hp4';cases hp4'))) ?_ ?_)
  ·rintro i u σ H5 hu
   refine pQ ?_
   rintro hi v1 rfl hN5 kp
   refine a4 ?_ (gH hu)
   rintro y hy rfl
   have hi':i<4:=(cg.mp hy).1
   obtain⟨q,hq,dq,hqa⟩:=qs i y hy
   have hqa5:=kp _ _ hqa (bg hqa hN4 (by intro z;cases z))
   refine df _ rfl (.inl ⟨rfl,_,a5.of hN5⟩) (cy _ rfl y q rfl ⟨dq,hqa5⟩ fun A hA=>?_)
   have sA:=aC.laid (o:= .lst ((shownQ q).map V.int)) hA
   have fl:∀l:List Vbdeab.Q,(l.flatMap shownQ).length=2*l.length:=fun l=>by
    induction l with
    | nil=>rfl
    | cons a r ih=>rw [HF,bZ,ih,d8];show 2+_=_;omega
   refine j5 N A _ _ rfl rfl (sA _ _ hN5) af ?_ (mU hi' _ rfl ?_ fun c o e hc=>?_)
   ·rw [aD,d8,fl,ii,aD]
    show 2*min i 4+1+2≤2 ^ 24
    omega
   ·rw [af,Ch.bA hq,List.flatMap_append,←dB,HD]
    simp
   ·rw [ak hc]
    exact sA _ _ (kp c o e hc)
  ·rintro σ H5
   refine pQ ?_
   rintro hi v1 rfl hN5 kp
   have nN:H1 N=none:=hN
   have s15:aC H1 H5:=fun c o e=>kp c o (S4 _ _ (sN _ _ e)) (aw e nN)
   refine⟨_,rfl,?_⟩
   rw [es] at kk
   exact kk H5 N as _ (W1.same s15) hd1 hN5 (ki1.trans (KI.same s15)) (ki1.nf nN)
def IC (S:State) (d p q t:Int):Int:=if Dz S d<0 then Dz S d else if Vbdeab.fraction p q=none∨¬(0≤t∧t≤1) then -5 else 0
def wB (T:Tx K mg):Sp:=fun vs H Q _=>∃(G:Gh) (b r l a:Addr) (as:List Addr) (S:State) (ns:List Int) (pos:Nat) (d p q t:Int),vs= [.ref b,.int d,.int p,.int q,.int t]∧Wd G T H b r l a as S ns pos∧Sz 140 q∧∀H',aC H H'→Q (.int (IC S d p q t)) H'
theorem my (T:Tx K mg):dO P w base T.iP 5 (wB T):=by
 refine T.iP.okA mN ?_
 rintro _ A _ s H _ Q E hr
 refine Bf fun G b=>?_
 refine jv ?_
 rintro r l a as S ns pos d p q t rfl W qz k
 refine⟨_,(ac (aZ 5 mN.nd (bj T.cq (ck T) hr (ab (pv 0) (ab (pv 1) ad))))
   (ac (aT (aR ll (pv 5) am (aY _)) (ae (aj (pv 5))) aG)
   (ac (aT (lr (ic (aR kH (bj T.cN (cr T) hr (ab (pv 2) (ab (pv 3) ad))) de (aY _)) (ik (aV (aS (bj T.bW (a8 T) hr (ab (pv 4) (ab am (ab am ad))))))))) (ae (aj (fk T.k8))) aG)
   (ae (aj am))))),?_⟩
 refine bD _ rfl _ rfl (wQ G b r l a as S ns (bV pos d rfl W ?_))
 refine lA _ rfl _ _ rfl rfl _ rfl (aX (fun h1=>?_) (fun h1=>?_))
 ·have e:IC S d p q t=Dz S d:=if_pos (bn h1)
  rw [e] at k
  exact⟨_,rfl,k H (aC.refl' H)⟩
 ·have e:IC S d p q t=if Vbdeab.fraction p q=none∨¬(0≤t∧t≤1) then -5 else 0:=if_neg fun z=>h1 (aE z)
  rw [e] at k
  refine eY _ rfl _ rfl p q rfl (qz.mono ()) fun v H2 o2 s2=>?_
  cases hf:Vbdeab.fraction p q with
  | none=>
   rw [hf] at o2 k
   obtain rfl:v= .non:=o2
   rw [if_pos (.inl rfl)] at k
   exact dt rfl _ rfl (jC (k H2 s2))
  | some f=>
   rw [hf] at o2 k
   refine a4 ?_ o2
   rintro y rfl _
   refine dt rfl _ rfl (fB _ rfl t 0 (bD 1 rfl _ rfl (aX (fun h3=>?_) (fun h3=>?_))))
   ·rw [if_pos (.inr (eG h3))] at k
    exact k H2 s2
   ·rw [if_neg (fun z=>z.elim (fun q=>by cases q) fun q=>q (cj h3))] at k
    exact k H2 s2
open Vbdeab (Class Dist)
theorem B7 (S:State) (d p q t:Int):(IC S d p q t<0∧(∀f:Dist→Vbdeab.Q→List Int,onDist S d (fun x=>match Vbdeab.fraction p q with
  | none=>(S,[-5])
  | some v=>if within t 0 1=false then(S,[-5]) else(S,f x v))=(S,[IC S d p q t])))∨
  (IC S d p q t=0∧(0≤d∧d≤63)∧(0≤t∧t≤1)∧∃x v,S.dist d.toNat=some x∧Vbdeab.fraction p q=some v∧∀f:Dist→Vbdeab.Q→List Int,onDist S d (fun x=>match Vbdeab.fraction p q with
  | none=>(S,[-5])
  | some v=>if within t 0 1=false then(S,[-5]) else(S,f x v))=(S,f x v)):=by
 unfold IC
 rcases gG S d with⟨h,e⟩ | ⟨h,h2,e⟩ | ⟨h,x,h2,e⟩
 ·rw [e,if_pos ()]
  exact .inl ⟨(),fun f=>lj.1 h⟩
 ·rw [e,if_pos ()]
  exact .inl ⟨(),fun f=>lj.2.1 h h2⟩
 ·rw [e,if_neg ()]
  cases hf:Vbdeab.fraction p q with
  | none=>
   rw [if_pos (.inl rfl)]
   exact .inl ⟨(),fun f=>lj.2.2 h x h2⟩
  | some v=>
   by_cases c:0≤t∧t≤1
   ·rw [if_neg (fun z=>z.elim (fun q=>by cases q) fun q=>q c)]
    refine .inr (b8 rfl h c (bV x v h2 rfl fun f=>(lj.2.2 h x h2).trans ?_))
    show(if within t 0 1=false then _ else _)=_
    rw [cx,aE c,if_neg ()]
   ·rw [if_pos (.inr c)]
    refine .inl ⟨(),fun f=>(lj.2.2 h x h2).trans ?_⟩
    show(if within t 0 1=false then _ else _)=_
    rw [cx,br c,if_pos rfl]
def wA (T:Tx K mg):Sp:=di T (fun dd c rest=>∃d p q t,dd=d::p::q::t::rest∧c= .below d p q t∧Sz 140 q)
theorem Ip (T:Tx K mg):dO P w base T.vb 6 (wA T):=by
 refine T.vb.okA kJ ?_
 rintro _ A _ s H _ Q E hr
 refine jv ?_
 rintro G b r l a as S ns pos c rest rfl W U1 kk
 refine Ja ?_ U1
 rintro d p q t hd rfl qz
 refine⟨_,(ac (aZ 2 kJ.nd (eO (pv 1) T.au (ah T) hr))
   (ac (aZ 3 kJ.nd (eO (pv 1) T.au (ah T) hr))
   (ac (aZ 4 kJ.nd (eO (pv 1) T.au (ah T) hr))
   (ac (aZ 5 kJ.nd (eO (pv 1) T.au (ah T) hr))
   (ac (aZ 6 kJ.nd (bj T.iP (my T) hr (ab (pv 0) (ab (pv 2) (ab (pv 3) (ab (pv 4) (ab (pv 5) ad)))))))
   (ac (aT (aR ll (pv 6) am (aY _)) (ae (aj (aI (ab (pv 6) ad)))) aG)
   (ae (aj (aB fe (aI (ab am ad)) (bj T.f9 (g8 T) hr (ab (bj T.mZ (xB T) hr (ab (ip (ao (pv 0) rfl) (pv 2)) (ab (bj T.cN (cr T) hr (ab (pv 3) (ab (pv 4) ad))) (ab (pv 5) ad)))) ad))))))))))),?_⟩
 have W0:=W;have ki0:=KI.refl H;have hd0:=hd
 refine aN W0 hd0 ki0 rfl fun H1 W1 hd1 ki1=>?_
 refine aN W1 hd1 ki1 rfl fun H2 W2 hd2 ki2=>?_
 refine aN W2 hd2 ki2 rfl fun H3 W3 hd3 ki3=>?_
 refine aN W3 hd3 ki3 rfl fun H4 W4 hd4 ki4=>?_
 have es:=IN S d p q t
 refine DQ _ rfl _ rfl _ rfl _ rfl _ rfl G b (im r l a as S ns _ d p q t rfl W4 qz fun H5 s5=>?_)
 have W5:=W4.same s5
 have ki5:=ki4.trans (KI.same s5)
 rcases B7 S d p q t with⟨hneg,hon⟩ | ⟨e0,hd63,ht,x,f,hx,hf,hon⟩
 ·replace es:=es.trans (hon fun x v=>0::shownQ (Vbdeab.below (decide (t=1)) v x))
  refine lA _ rfl _ _ rfl rfl _ rfl (aX (fun _=>?_) (fun h1=>absurd (aE hneg) h1))
  refine⟨_,rfl,?_⟩
  exact⟨bC,aF kk W5 hd4 ki5 es⟩
 ·replace es:=es.trans (hon fun x v=>0::shownQ (Vbdeab.below (decide (t=1)) v x))
  rw [e0] at*
  refine io (fun vs v g2 g3 g4 g5 g6=>?_) (W5.dGet hd63)
  rw [hx] at g6
  refine a4 ?_ g6
  rintro z rfl hz
  obtain⟨db,hb⟩:=id W5.bank
  refine⟨_,rfl,_,_,rfl,rfl,_,rfl,bC,fun A1 hA1=>?_⟩
  have sa:=aC.laid (o:= .lst [V.int 0]) hA1
  refine aM _ rfl b _ db _ _ rfl (sa _ _ hb) T.aQ.cl (T.aQ.no _ ()) rfl (bQ _ rfl G.l2 _ _ _ rfl rfl (a5.of (sa _ _ g2)) g5 (eY _ rfl _ rfl p q rfl (qz.mono ()) fun u H6 o6 s6=>?_))
  rw [hf] at o6
  refine a4 ?_ o6
  rintro y rfl hy
  refine fB _ rfl (G.av l) z (j4 y x f (decide (t=1)) (by rw [←JR ht];rfl) ((hz.same sa).same s6) hy (nv hf) fun y2 H7 hy2 s7=>?_)
  refine bV y2 _ rfl hy2 fun A2 hA2=>?_
  have sb:=aC.laid (o:= .lst ((shownQ (Vbdeab.below (decide (t=1)) f x)).map V.int)) hA2
  have SS:=((sa.trans s6).trans s7).trans sb
  refine j5 A1 A2 _ _ rfl rfl (sb _ _ (s7 _ _ (s6 _ _ af))) af (by show 1+2≤2 ^ 24;decide) ?_
  exact aF kk (W5.same SS) hd4 (ki5.trans (KI.same SS)) es
def zB (T:Tx K mg):Sp:=di T (fun dd c rest=>∃d p q t,dd=d::p::q::t::rest∧c= .hits d p q t∧Sz 140 q)
theorem KK (T:Tx K mg):dO P w base T.zV 8 (zB T):=by
 refine T.zV.okA md ?_
 rintro _ A _ s H _ Q E hr
 refine jv ?_
 rintro G b r l a as S ns pos c rest rfl W U1 kk
 refine Ja ?_ U1
 rintro d p q t hd rfl qz
 refine⟨_,(ac (aZ 2 md.nd (eO (pv 1) T.au (ah T) hr))
   (ac (aZ 3 md.nd (eO (pv 1) T.au (ah T) hr))
   (ac (aZ 4 md.nd (eO (pv 1) T.au (ah T) hr))
   (ac (aZ 5 md.nd (eO (pv 1) T.au (ah T) hr))
   (ac (aZ 6 md.nd (bj T.iP (my T) hr (ab (pv 0) (ab (pv 2) (ab (pv 3) (ab (pv 4) (ab (pv 5) ad)))))))
   (ac (aT (aR ll (pv 6) am (aY _)) (ae (aj (aI (ab (pv 6) ad)))) aG)
   (ae (aj (aI (ab am (ab (bj T.rJ (AM T) hr (ab (ip (ao (pv 0) rfl) (pv 2)) (ab (bj T.cN (cr T) hr (ab (pv 3) (ab (pv 4) ad))) (ab (pv 5) ad)))) ad))))))))))),?_⟩
 have W0:=W;have ki0:=KI.refl H;have hd0:=hd
 refine aN W0 hd0 ki0 rfl fun H1 W1 hd1 ki1=>?_
 refine aN W1 hd1 ki1 rfl fun H2 W2 hd2 ki2=>?_
 refine aN W2 hd2 ki2 rfl fun H3 W3 hd3 ki3=>?_
 refine aN W3 hd3 ki3 rfl fun H4 W4 hd4 ki4=>?_
 have es:=K8 S d p q t
 refine DQ _ rfl _ rfl _ rfl _ rfl _ rfl G b (im r l a as S ns _ d p q t rfl W4 qz fun H5 s5=>?_)
 have W5:=W4.same s5
 have ki5:=ki4.trans (KI.same s5)
 rcases B7 S d p q t with⟨hneg,hon⟩ | ⟨e0,hd63,ht,x,f,hx,hf,hon⟩
 ·replace es:=es.trans (hon fun x v=> [0,((Vbdeab.hits (decide (t=1)) v x:Nat):Int)])
  refine lA _ rfl _ _ rfl rfl _ rfl (aX (fun _=>?_) (fun h1=>absurd (aE hneg) h1))
  refine⟨_,rfl,?_⟩
  exact⟨bC,aF kk W5 hd4 ki5 es⟩
 ·replace es:=es.trans (hon fun x v=> [0,((Vbdeab.hits (decide (t=1)) v x:Nat):Int)])
  rw [e0] at*
  refine io (fun vs v g2 g3 g4 g5 g6=>?_) (W5.dGet hd63)
  rw [hx] at g6
  refine a4 ?_ g6
  rintro z rfl hz
  obtain⟨db,hb⟩:=id W5.bank
  refine⟨_,rfl,_,_,rfl,rfl,_,rfl,_,rfl,b,_,db,_,_,rfl,hb,T.aQ.cl,T.aQ.no _ (),rfl,_,rfl,G.l2,_,_,_,rfl,rfl,a5.of g2,g5,_,rfl,_,rfl,p,q,rfl,qz.mono (),fun u H6 o6 s6=>?_⟩
  rw [hf] at o6
  refine a4 ?_ o6
  rintro y rfl hy
  refine fB _ rfl (G.av l) z (j4 y x f (decide (t=1)) (by rw [←JR ht];rfl) (hz.same s6) hy (nv hf) fun H7 s7=>?_)
  exact⟨rm,aF kk (W5.same (s6.trans s7)) hd4 (ki5.trans (KI.same (s6.trans s7))) es⟩
end
end Pf
namespace Pf
open PySem PySem.Spec PyProof.Rows L2
section
variable {P:Program} {w:World} {K:PySem.W.Frag} {mg:Str→Option Value} {base:Heap}
theorem Wd.tab {G:Gh} {T:Tx K mg} {H H':Hp} {b r l a:Addr} {as:List Addr} {S:State} {ns:List Int} {pos:Nat} (W:Wd G T H b r l a as S ns pos) (k:iE H H' G.P) (t':TB G.P H'):Wd G T H' b r l a as S ns pos:=by
 obtain⟨U,U1,hq,hl,nd,len,sl,at_,ok,dw⟩:=W
 obtain⟨dx,hb⟩:=U
 obtain⟨dr,hr⟩:=U1
 have kp:∀c o,H c=some o→(∀ps,o≠ .tbl ps)→H' c=some o:=fun c o e n=>k c o e fun z=>by
  rcases dw.tb with q | ⟨_,q,_⟩
  ·rw [z,q] at e;exact n _ (bG e).symm
  ·rw [z,q] at e;exact n _ (bG e).symm
 exact⟨⟨dx,kp _ _ hb (by intro ps z;cases z)⟩,⟨dr,kp _ _ hr (by intro ps z;cases z)⟩,hq.keep (fun _ _ _ e=>kp _ _ e (by intro ps z;cases z)),kp _ _ hl (by intro ps z;cases z),nd,len,sl,fun j z u h2 h3=>let ⟨d,h⟩:=at_ j z u h2 h3;⟨d,kp _ _ h (by intro ps z;cases z)⟩,ok,dw.keep (.tab k dw.tb t') fun c xs e _=>kp _ _ e (by intro ps z;cases z)⟩
theorem Wd.both {G:Gh} {T:Tx K mg} {H H':Hp} {b r l a:Addr} {as:List Addr} {S:State} {ns:List Int} {pos:Nat} (W:Wd G T H b r l a as S ns pos) {k:Nat} {x:Addr} {t t':Stream} (hx:as[k]?=some x) (h0:bU T H x t) (h1:bU T H' x t') (hlt:t'.state<Vbdeab.P)
  (kp:∀c o,H c=some o→c≠x→c≠G.P→H' c=some o) (tb:TB G.P H'):Wd G T H' b r l a as (S.put k t') ns pos:=by
 obtain⟨dx,e1⟩:=h1
 have W1:Wd G T (bT H x (.ins T.aK.C dx (sf t'))) b r l a as (S.put k t') ns pos:=W.stream hx h0 ⟨dx,af⟩ (fun c o e n=>by rw [ak n];exact e) hlt
 refine W1.tab (fun c o e n=>?_) tb
 by_cases q:c=x
 ·subst q
  rw [af] at e
  cases e
  exact e1
 ·rw [ak q] at e
  exact kp c o e q n
theorem ld.kp {T:Tx K mg} {av:List Addr} {H H':Hp} {rs:List Addr} {l:List (Int×Int)} (h:ld T H rs l) (s:KP av H H'):ld T H' rs l:=⟨h.1,fun j r q a b=>s.rt (h.2 j r q a b)⟩
theorem ld.snoc {T:Tx K mg} {H:Hp} {rs:List Addr} {l:List (Int×Int)} {r:Addr} {q:Int×Int} (h:ld T H rs l) (v:fI T H r q.1 q.2):ld T H (rs++ [r]) (l++ [q]):=by
 refine⟨by rw [bZ,bZ,h.1];rfl,fun j r' q' a b=>?_⟩
 rcases sO j rs.length with z | z
 ·rw [n8 z] at a
  rw [n8 (by rw [←h.1];exact z)] at b
  exact h.2 j r' q' a b
 ·rw [n9 z] at a
  rw [n9 (by rw [←h.1];exact z),←h.1] at b
  cases e:j - rs.length with
  | zero=>rw [e] at a b;cases a;cases b;exact v
  | succ m=>rw [e] at a;cases a
theorem D8 (l:List Vbdeab.Q):(l.flatMap shownQ).length=2*l.length:=by
 induction l with
 | nil=>rfl
 | cons a r ih=>rw [HF,bZ,ih,d8];show 2+_=_;omega
theorem K6 (S:State) (d k:Int):Vbdeab.step S (.draw d k)=onDist S d fun x=>onStream S k fun t=> .ok ((Vbdeab.raw t).1,shownQ (Vbdeab.value x (Vbdeab.raw t).2)):=by rw [Vbdeab.step]
theorem IP (S:State) (d k n:Int):Vbdeab.step S (.draws d k n)=onDist S d fun x=>onStream S k fun t=>if within n 0 1000=false then .error (-3) else .ok ((Vbdeab.raws n.toNat t).1,n::(Vbdeab.raws n.toNat t).2.flatMap fun u=>shownQ (Vbdeab.value x u)):=by rw [Vbdeab.step]
def II (T:Tx K mg):Sp:=fun vs H Q _=>∃(G:Gh) (b r l a:Addr) (as:List Addr) (S:State) (ns:List Int) (pos d k n:Nat) (x:Vbdeab.Dist),vs= [.ref b,.int d,.int k,.int n]∧Wd G T H b r l a as S ns pos∧d<64∧k<64∧n≤1000∧S.dist d=some x∧∀(H':Hp) (p:Addr),Wd G T H' b r l a as (S.put k (Vbdeab.raws n (S.stream k)).1) ns pos→H' p=some (.lst (((Vbdeab.raws n (S.stream k)).2.flatMap fun u=>shownQ (Vbdeab.value x u)).map V.int))→KI H H'→NF H p→Q (.ref p) H'
theorem BY (T:Tx K mg):dO P w base T.Bv 6 (II T):=by
 refine T.Bv.okA iY ?_
 rintro _ A _ s H _ Q E hr
 refine lC fun G b r l a as=>?_
 refine Jb ?_
 rintro S ns pos d k n x rfl W hd hk hn hx kk
 refine⟨_,(ac (aZ 4 iY.nd (ip (ao (pv 0) rfl) (pv 1)))
   (ac (aZ 5 iY.nd (ip (ao (pv 0) rfl) (pv 2)))
   (ac (aZ 6 iY.nd (aI ad))
   (ac (eh cM rfl (cF (bj T.dM (AJ T) hr (ab (j9 (own:= [("i",8)]) rfl iY.nd (cu rfl T.dk (ab (pv 3) ad)) (ci (N:= ["bank","d","k","many","distribution","stream","numbers","ratio","i"]) (sc:=ag za) (by decide+kernel)) (fun _ _ _ _ _=>(kZ 8 iY.nd)) (fun _ _ _ _ _=>dS) (fun _ _ _ _ _=>(zN (pv 4) T.dY (gB T) hr (ab (eO (pv 5) T.bL (bX T) hr) ad)))) ad))) (kZ 7 iY.nd) (ae (gw (rZ lM FM FN uW (pv 6) (ab (bj T.f9 (g8 T) hr (ab (pv 7) ad)) ad)))))
   (ae (aj (pv 6))))))),?_⟩
 obtain⟨db,hb⟩:=id W.bank
 refine io (fun vs v g2 g3 g4 g5 g6=>?_) (W.dGet (d:=(d:Int)) ⋯)
 refine io (fun sx t e1 e2 e3 e4 e5=>?_) (W.sGet hk)
 rw [show(d:Int).toNat=d from rfl,hx] at g6
 refine a4 ?_ g6
 rintro z rfl hz
 rw [e3] at kk
 obtain⟨ds,hs⟩:=id e4
 refine lC (fun dz _ _ _ _ _ DD=>?_) hz
 refine aM _ rfl b _ db _ _ rfl hb T.aQ.cl (T.aQ.no _ ()) rfl (bQ _ rfl G.l2 _ _ _ rfl rfl (a5.of g2) g5 ?_)
 refine aM _ rfl b _ db _ _ rfl hb T.aQ.cl (T.aQ.no _ ()) rfl (gP _ rfl l _ _ _ rfl rfl (a5.of W.lst) (nG rfl e1) (bo _) fun N hN=>?_)
 have sN:=aC.laid (o:= .lst []) hN
 refine sY _ rfl (n:Int) rfl ⋯ ⋯ fun D hD=>?_
 have nND:N≠D:=aw af hD
 have hD0:H D=none:=sN.free hD
 refine gA (n:=n) (fun i H'=>∃(rs:List Addr) (ps:List (Int×Int)),H' D=some (.lst (rs.map V.ref))∧ld T H' rs ps∧(∀q∈ps,0<q.2∧Sz 600 q.2∧Sz 600 q.1)∧(ps.map fun q=>Vbdeab.mkQ q.1 q.2.toNat)=(Vbdeab.raws i t).2.map (Vbdeab.value x)∧H' N=some (.lst [])∧bU T H' sx (Vbdeab.raws i t).1∧iE H H' sx) ?_ ?_ ?_
 ·refine bR ([]) ([]) af ⟨rfl,fun j r q a b=>by cases a⟩ (fun q hq=>(nomatch hq)) (b8 (by rw [Ch.dC];rfl) (by rw [ak nND,af]) ⟨ds,?_⟩ fun c o e _=>?_)
  ·rw [Ch.dC,ak (aw hs hD0)]
   exact sN _ _ hs
  ·rw [ak (aw e hD0)]
   exact sN _ _ e
 ·rintro i H3 hi
  refine rB fun rs ps hD3=>?_
  refine rA fun hrs hps heq hN3 U1 kp3=>?_
  obtain⟨d3,hs3⟩:=U1
  have KQ3:KQ (G.av l) H H3:=KQ.keep1 kp3 hs rfl
  have hz3:=hz.kp KQ3.toKP
  refine⟨rfl,(cP _ rfl z dz _ rfl (kp3 _ _ DD.inst (bg DD.inst hs (LR ()))) rfl (cP _ rfl sx d3 _ rfl hs3 rfl (bV sx _ rfl ⟨d3,hs3⟩ fun H4 ⟨d4,hs4⟩ kp4=>?_)))⟩
  have KQ4:KQ (G.av l) H3 H4:=KQ.keep1 kp4 hs3 rfl
  refine⟨G.av l,(bY z x _ rfl (hz3.kp KQ4.toKP) Ch.wq fun y H5 hy s5=>?_)⟩
  have hD5:=s5 _ _ (kp4 _ _ hD3 (bg hD3 hs3 (by intro z;cases z)))
  have hN5:=s5 _ _ (kp4 _ _ hN3 (bg hN3 hs3 (by intro z;cases z)))
  refine tp (fun yn ym hyt yiz ynz ymz=>?_) hy
  have hlen:ps.length=i:=by
   have:=cA List.length heq
   rw [aD,aD,Ch.gF] at this
   exact this
  have hrs5:ld T H5 rs ps:=(hrs.kp KQ4.toKP).kp (av:=G.av l) (.same s5)
  refine df _ hD5 (by rw [aD,hrs.1,hlen];show i<2 ^ 24;omega) (bR (rs++ [y]) (ps++ [(yn,ym)]) (by rw [af,dB];rfl) ((hrs5.snoc (q:=(yn,ym)) hyt).si (ib.lst hD5)) (fun q hq=>?_) (b8 ?_ (by rw [ak nND];exact hN5) ⟨d4,?_⟩ fun c o e nc=>?_))
  ·rcases jT.mp hq with w | w
   ·exact hps q w
   ·rw [gQ.mp w]
    exact⟨yiz.dpos,ymz.mono (),ynz.mono ()⟩
  ·rw [dB,heq,Ch.fW,dB]
   congr 1
   show [Vbdeab.mkQ yn ym.toNat]= [Vbdeab.value x _]
   rw [←yiz.eq]
  ·rw [ak (aw hs hD0),Ch.fW]
   exact s5 _ _ hs4
  ·rw [ak (aw e hD0)]
   exact s5 _ _ (kp4 _ _ (kp3 _ _ e nc) nc)
 ·rintro H3
  refine rB fun rs ps hD3=>?_
  refine rA fun hrs hps heq hN3 hs3 kp3=>?_
  have KQ3:KQ (G.av l) H H3:=KQ.keep1 kp3 hs rfl
  have hlen:ps.length=n:=by
   have:=cA List.length heq
   rw [aD,aD,Ch.gF] at this
   exact this
  refine j5 D G.P rs ps rfl hD3 hrs ⋯ hps (b8 W.dw.to (W.dw.bm.keep KQ3.x) (KQ3.t _ W.dw.tb) fun H4 p xs hp4 xlen hxs k4 tb4 np4=>?_)
  have tb3:=KQ3.t _ W.dw.tb
  have nT:∀(Hx:Hp) c o,TB G.P Hx→Hx c=some o→(∀ps,o≠ .tbl ps)→c≠G.P:=fun Hx c o tb e hn w=>by
   rcases tb with tb | ⟨_,tb,_⟩
   ·rw [w,tb] at e;exact hn _ (bG e).symm
   ·rw [w,tb] at e;exact hn _ (bG e).symm
  have hN4:H4 N=some (.lst []):=k4 _ _ hN3 (nT H3 _ _ tb3 hN3 (by intro ps z;cases z))
  have pN:p≠N:=fun w=>by rw [w,hN3] at np4;cases np4
  generalize hms:(Vbdeab.raws n t).2.map (Vbdeab.value x)=ms at heq
  have mlen:ms.length=n:=by rw [←hms,aD,Ch.gF]
  have qs:∀(i:Nat) y,xs[i]?=some y→∃q,ms[i]?=some q∧j2 T H4 y q:=fun i y hy=>by
   have hi:i<ps.length:=by rw [←xlen];exact(cg.mp hy).1
   refine⟨_,by rw [←heq,du,bH hi];rfl,hxs i y _ hy (bH hi)⟩
  refine df p rfl ⟨_,a5.of hp4⟩ (eE (xs:=xs.map V.ref) (fun i σ H'=>i≤n∧∃(v1 v2:Option V),σ= [some (.ref b),some (.int d),some (.int k),some (.int n),some (.ref z),some (.ref sx),some (.ref N),v1,v2]∧H' N=some (.lst (((ms.take i).flatMap shownQ).map V.int))∧(∀c o,H4 c=some o→c≠N→H' c=some o)) ⟨bo _,(bV none none rfl hN4 fun c o e _=>e)⟩ (fun i σ H' _ ⟨_,_,_,_,_,kp⟩=>a5.of (kp _ _ hp4 pN)) ?_ ?_)
  ·rintro i u σ H5 hu
   refine Li ?_
   rintro hi v1 v2 rfl hN5 kp
   refine a4 ?_ (gH hu)
   rintro y hy rfl
   have hi':i<n:=by rw [←hlen,←xlen];exact(cg.mp hy).1
   obtain⟨q,hq,dq,hqa⟩:=qs i y hy
   have hqa5:=kp _ _ hqa (bg hqa hN4 (by intro z;cases z))
   refine df _ rfl (.inl ⟨rfl,_,a5.of hN5⟩) (cy _ rfl y q rfl ⟨dq,hqa5⟩ fun A hA=>?_)
   have sA:=aC.laid (o:= .lst ((shownQ q).map V.int)) hA
   refine j4 N A _ _ rfl rfl (sA _ _ hN5) af (fi ?_ hi' (bV _ _ rfl ?_ fun c o e hc=>?_))
   ·rw [aD,D8,ii,aD]
    show 2*min i _+2≤2 ^ 24
    omega
   ·rw [af,Ch.bA hq,List.flatMap_append,←dB]
    simp
   ·rw [ak hc]
    exact sA _ _ (kp c o e hc)
  ·rintro σ H5
   refine Li ?_
   rintro hi v1 v2 rfl hN5 kp
   have tb5:TB G.P H5:=tb4.keep (fun c ps e=>kp _ _ e (bg e hN4 (by intro z;cases z))) fun c φ e=>kp _ _ e (bg e hN4 (by intro z;cases z))
   have kpF:∀c o,H c=some o→c≠sx→c≠G.P→H5 c=some o:=fun c o e n1 n2=>kp _ _ (k4 _ _ (kp3 _ _ e n1) n2) (aw e hN)
   have sF:bU T H5 sx (Vbdeab.raws n t).1:=by
    obtain⟨d3,hs3⟩:=hs3
    exact⟨d3,kp _ _ (k4 _ _ hs3 (nT H3 _ _ tb3 hs3 (by intro ps z;cases z))) (aw hs hN)⟩
   refine⟨_,rfl,?_⟩
   rw [aD,xlen,hlen,lD (by rw [mlen];exact bq _),←hms,List.flatMap_map] at hN5
   refine kk H5 N (W.both e1 e4 sF (uZ e5 _) kpF tb5) hN5 (fun c xs e=>kpF _ _ e (bg e hs (by intro z;cases z)) (nT H _ _ W.dw.tb e (by intro ps z;cases z))) (KI.nf (KI.refl H) hN)
def zz (T:Tx K mg):Sp:=di T (fun dd c rest=>∃d k,dd=d::k::rest∧c= .draw d k)
theorem KH (T:Tx K mg):dO P w base T.zU 7 (zz T):=by
 refine T.zU.okA u6 ?_
 rintro _ A _ s H _ Q E hr
 refine jv ?_
 rintro G b r l a as S ns pos c rest rfl W U1 kk
 refine rB ?_ U1
 rintro d k hd rfl
 refine⟨_,(ac (aZ 2 u6.nd (eO (pv 1) T.au (ah T) hr))
   (ac (aZ 3 u6.nd (eO (pv 1) T.au (ah T) hr))
   (ac (aZ 4 u6.nd (bj T.cq (ck T) hr (ab (pv 0) (ab (pv 2) ad))))
   (ac (aT (aR ll (pv 4) am (aY _)) (ae (aj (aI (ab (pv 4) ad)))) aG)
   (ac (aT (aV (aS (bj T.bB (a6 T) hr (ab (pv 3) ad)))) (ae (aj (aI (ab (fk T.bc) ad)))) aG)
   (ae (aj (aB fe (aI (ab am ad)) (bj T.Bv (BY T) hr (ab (pv 0) (ab (pv 2) (ab (pv 3) (ab am ad))))))))))))),?_⟩
 have W0:=W;have ki0:=KI.refl H;have hd0:=hd
 refine aN W0 hd0 ki0 rfl fun H1 W1 hd1 ki1=>?_
 refine aN W1 hd1 ki1 rfl fun H2 W2 hd2 ki2=>?_
 have es:=K6 S d k
 refine bD _ rfl _ rfl (wQ G b r l a as S ns (bV _ d rfl W2 ?_))
 rcases gG S d with⟨h,e⟩ | ⟨h,h2,e⟩ | ⟨h,x,h2,e⟩
 ·rw [e,lj.1 h] at*
  refine⟨_,rfl,_,_,rfl,rfl,_,rfl,_,rfl,?_⟩
  exact⟨bC,aF kk W2 hd2 ki2 es⟩
 ·rw [e] at*
  rw [lj.2.1 h h2] at es
  refine⟨_,rfl,_,_,rfl,rfl,_,rfl,_,rfl,?_⟩
  exact⟨bC,aF kk W2 hd2 ki2 es⟩
 ·rw [e] at*
  rw [lj.2.2 h x h2] at es
  refine lA _ rfl _ _ rfl rfl _ rfl (bd _ rfl k rfl _ rfl (aX (fun h3=>?_) (fun h3=>?_)))
  ·rw [iU (eG h3)] at es
   exact⟨bC,aF kk W2 hd2 ki2 es⟩
  ·have hk:=cj h3
   rw [mD (r:=((Vbdeab.raw (S.stream k.toNat)).1,shownQ (Vbdeab.value x (Vbdeab.raw (S.stream k.toNat)).2))) hk rfl] at es
   refine⟨bC,fun A1 hA1=>?_⟩
   have sa:=aC.laid (o:= .lst [V.int 0]) hA1
   refine bD _ rfl _ rfl (fB _ rfl G b (im r l a as S ns _ d.toNat k.toNat 1 x (by rw [cE h.1,cE hk.1];rfl) (W2.same sa) ⋯ (b8 ⋯ () h2 fun H3 p W3 hp3 ki3 nf3=>?_)))
   have r1:Vbdeab.raws 1 (S.stream k.toNat)=((Vbdeab.raw (S.stream k.toNat)).1,[(Vbdeab.raw (S.stream k.toNat)).2]):=by rw [Ch.fW,Ch.dC];rfl
   rw [r1] at W3 hp3
   have hA3:=ki3 A1 [0] af
   have hp3':H3 p=some (.lst ((shownQ (Vbdeab.value x (Vbdeab.raw (S.stream k.toNat)).2)).map V.int)):=by rw [hp3];simp
   refine j5 A1 p _ _ rfl rfl hA3 hp3' (by show 1+2≤2 ^ 24;decide) ?_
   have fin:=aF kk W3 hd2 ((ki2.trans (KI.same sa)).trans ki3) es
   exact fin
def wE (T:Tx K mg):Sp:=di T (fun dd c rest=>∃d k n,dd=d::k::n::rest∧c= .draws d k n)
theorem Ir (T:Tx K mg):dO P w base T.vd 7 (wE T):=by
 refine T.vd.okA mO ?_
 rintro _ A _ s H _ Q E hr
 refine jv ?_
 rintro G b r l a as S ns pos c rest rfl W U1 kk
 refine tq ?_ U1
 rintro d k n hd rfl
 refine⟨_,(ac (aZ 2 mO.nd (eO (pv 1) T.au (ah T) hr))
   (ac (aZ 3 mO.nd (eO (pv 1) T.au (ah T) hr))
   (ac (aZ 4 mO.nd (eO (pv 1) T.au (ah T) hr))
   (ac (aZ 5 mO.nd (bj T.cq (ck T) hr (ab (pv 0) (ab (pv 2) ad))))
   (ac (aT (aR ll (pv 5) am (aY _)) (ae (aj (aI (ab (pv 5) ad)))) aG)
   (ac (aT (aV (aS (bj T.bB (a6 T) hr (ab (pv 3) ad)))) (ae (aj (aI (ab (fk T.bc) ad)))) aG)
   (ac (aT (aV (aS (bj T.gU (gD T) hr (ab (pv 4) ad)))) (ae (aj (aI (ab (fk T.fG) ad)))) aG)
   (ae (aj (aB fe (aI (ab am (ab (pv 4) ad))) (bj T.Bv (BY T) hr (ab (pv 0) (ab (pv 2) (ab (pv 3) (ab (pv 4) ad))))))))))))))),?_⟩
 have W0:=W;have ki0:=KI.refl H;have hd0:=hd
 refine aN W0 hd0 ki0 rfl fun H1 W1 hd1 ki1=>?_
 refine aN W1 hd1 ki1 rfl fun H2 W2 hd2 ki2=>?_
 refine aN W2 hd2 ki2 rfl fun H3 W3 hd3 ki3=>?_
 have es:=IP S d k n
 refine bD _ rfl _ rfl (wQ G b r l a as S ns (bV _ d rfl W3 ?_))
 rcases gG S d with⟨h,e⟩ | ⟨h,h2,e⟩ | ⟨h,x,h2,e⟩
 ·rw [e,lj.1 h] at*
  refine⟨_,rfl,_,_,rfl,rfl,_,rfl,_,rfl,?_⟩
  exact⟨bC,aF kk W3 hd3 ki3 es⟩
 ·rw [e] at*
  rw [lj.2.1 h h2] at es
  refine⟨_,rfl,_,_,rfl,rfl,_,rfl,_,rfl,?_⟩
  exact⟨bC,aF kk W3 hd3 ki3 es⟩
 ·rw [e] at*
  rw [lj.2.2 h x h2] at es
  refine lA _ rfl _ _ rfl rfl _ rfl (bd _ rfl k rfl _ rfl (aX (fun h3=>?_) (fun h3=>?_)))
  ·rw [iU (eG h3)] at es
   exact⟨bC,aF kk W3 hd3 ki3 es⟩
  ·have hk:=cj h3
   refine bd _ rfl n rfl _ rfl (aX (fun h4=>?_) (fun h4=>?_))
   ·rw [iV (e:= -3) hk (by rw [cx,if_pos (dP (eG h4))])] at es
    exact⟨bC,aF kk W3 hd3 ki3 es⟩
   ·have hn:=cj h4
    rw [mD (r:=((Vbdeab.raws n.toNat (S.stream k.toNat)).1,n::(Vbdeab.raws n.toNat (S.stream k.toNat)).2.flatMap fun u=>shownQ (Vbdeab.value x u))) hk (by rw [cx,aE hn,if_neg ()])] at es
    refine df _ rfl rm fun A1 hA1=>?_
    have sa:=aC.laid (o:= .lst [V.int 0,V.int n]) hA1
    refine bd _ rfl _ rfl _ rfl (fB _ rfl G b (im r l a as S ns _ d.toNat k.toNat n.toNat x (by rw [cE h.1,cE hk.1,cE hn.1];rfl) (W3.same sa) ⋯ (b8 ⋯ ⋯ h2 fun H4 p W4 hp4 ki4 nf4=>?_)))
    have hA4:=ki4 A1 [0,n] af
    have fl:((Vbdeab.raws n.toNat (S.stream k.toNat)).2.flatMap fun u=>shownQ (Vbdeab.value x u)).length=2*n.toNat:=by
     have:=D8 ((Vbdeab.raws n.toNat (S.stream k.toNat)).2.map (Vbdeab.value x))
     rw [List.flatMap_map,aD,Ch.gF] at this
     exact this
    refine j5 A1 p _ _ rfl rfl hA4 hp4 (by rw [aD,aD,fl];show 2+2*n.toNat≤2 ^ 24;omega) ?_
    have fin:=aF kk W4 hd3 ((ki3.trans (KI.same sa)).trans ki4) es
    exact fin
end
end Pf
namespace Pf
open PySem PySem.Spec PyProof.Rows L2
section
variable {P:Program} {w:World} {K:PySem.W.Frag} {mg:Str→Option Value} {base:Heap} {G:Gh}
def j6 (T:Tx K mg):Addr→Sp→Prop:=fun f sp=>(f=T.rQ.f∧sp=wN T)∨(f=T.m4.f∧sp=uq T)∨(f=T.kX.f∧sp=rk T)∨(f=T.m9.f∧sp=uw T)∨(f=T.Dh.f∧sp=CO T)∨(f=T.w9.f∧sp=zC T)
theorem sS {A:Around} (T:Tx K mg) (hr:eU 3 A):∀f sp,j6 T f sp→∃k fd ps,j1 P w K mg base Bi k f fd ps sp∧eU k A∧PySem.W.keepIn K (.ref f)=true∧jc K fd ps []:=by
 rintro f sp (⟨rfl,rfl⟩ | ⟨rfl,rfl⟩ | ⟨rfl,rfl⟩ | ⟨rfl,rfl⟩ | ⟨rfl,rfl⟩ | ⟨rfl,rfl⟩)
 ·exact bY _ _ _ (Ix T) (hr.mono ()) T.rQ.F.kp T.rQ.b
 ·exact bY _ _ _ (GA T) (hr.mono ()) T.m4.F.kp T.m4.b
 ·exact bY _ _ _ (Fb T) (hr.mono ()) T.kX.F.kp T.kX.b
 ·exact bY _ _ _ (GH T) (hr.mono ()) T.m9.F.kp T.m9.b
 ·exact bY _ _ _ (Md T) (hr.mono ()) T.Dh.F.kp T.Dh.b
 ·exact bY _ _ _ (KL T) (hr.mono ()) T.w9.F.kp T.w9.b
def sX (T:Tx K mg):Sp:=fun vs H Q _=>∃(b r:Addr) (p:Int),vs= [.ref b,.int p,.ref r]∧((p=11∧wN T [.ref b,.ref r] H Q E0)∨(p=12∧uq T [.ref b,.ref r] H Q E0)∨(p=13∧rk T [.ref b,.ref r] H Q E0)∨(p=14∧uw T [.ref b,.ref r] H Q E0)∨(p=15∧CO T [.ref b,.ref r] H Q E0)∨(p=16∧zC T [.ref b,.ref r] H Q E0))
theorem sV (T:Tx K mg):dO P w base T.ja 4 (sX T):=by
 refine T.ja.okA kn ?_
 rintro _ A _ s H _ Q E hr
 refine tq ?_
 rintro b r p rfl k
 refine⟨_,(ac (aZ 3 kn.nd (l4 (JZ T.bN) (pv 1)))
   (ae (aj (pc (i:=3) (j6 T) rfl (Or.inl rfl) (sS T hr) (ab (pv 0) (ab (pv 2) ad)))))),?_⟩
 rcases k with⟨rfl,k⟩ | ⟨rfl,k⟩ | ⟨rfl,k⟩ | ⟨rfl,k⟩ | ⟨rfl,k⟩ | ⟨rfl,k⟩
 ·exact fj _ rfl T.bN.a _ _ _ rfl (T.bN.gd _ _) rfl rfl _ _ rfl (.inl ⟨rfl,rfl⟩) (bD _ rfl _ rfl k)
 ·exact fj _ rfl T.bN.a _ _ _ rfl (T.bN.gd _ _) rfl rfl _ _ rfl (.inr (.inl ⟨rfl,rfl⟩)) (bD _ rfl _ rfl k)
 ·exact fj _ rfl T.bN.a _ _ _ rfl (T.bN.gd _ _) rfl rfl _ _ rfl (.inr (.inr (.inl ⟨rfl,rfl⟩))) (bD _ rfl _ rfl k)
 ·exact fj _ rfl T.bN.a _ _ _ rfl (T.bN.gd _ _) rfl rfl _ _ rfl (.inr (.inr (.inr (.inl ⟨rfl,rfl⟩)))) (bD _ rfl _ rfl k)
 ·exact fj _ rfl T.bN.a _ _ _ rfl (T.bN.gd _ _) rfl rfl _ _ rfl (.inr (.inr (.inr (.inr (.inl ⟨rfl,rfl⟩))))) (bD _ rfl _ rfl k)
 ·exact fj _ rfl T.bN.a _ _ _ rfl (T.bN.gd _ _) rfl rfl _ _ rfl (.inr (.inr (.inr (.inr (.inr (⟨rfl,rfl⟩)))))) (bD _ rfl _ rfl k)
def jd (T:Tx K mg):Addr→Sp→Prop:=fun f sp=>(f=T.xc.f∧sp=zH T)∨(f=T.Di.f∧sp=CP T)∨(f=T.xb.f∧sp=zF T)∨(f=T.xf.f∧sp=zI T)∨(f=T.wY.f∧sp=zw T)∨(f=T.m8.f∧sp=uu T)∨(f=T.rP.f∧sp=wM T)∨(f=T.De.f∧sp=CL T)∨(f=T.w8.f∧sp=zA T)∨(f=T.w6.f∧sp=zy T)∨(f=T.rN.f∧sp=wJ T)
theorem oR {A:Around} (T:Tx K mg) (hr:eU 7 A):∀f sp,jd T f sp→∃k fd ps,j1 P w K mg base Bi k f fd ps sp∧eU k A∧PySem.W.keepIn K (.ref f)=true∧jc K fd ps []:=by
 rintro f sp (⟨rfl,rfl⟩ | ⟨rfl,rfl⟩ | ⟨rfl,rfl⟩ | ⟨rfl,rfl⟩ | ⟨rfl,rfl⟩ | ⟨rfl,rfl⟩ | ⟨rfl,rfl⟩ | ⟨rfl,rfl⟩ | ⟨rfl,rfl⟩ | ⟨rfl,rfl⟩ | ⟨rfl,rfl⟩)
 ·exact bY _ _ _ (KN T) (hr.mono ()) T.xc.F.kp T.xc.b
 ·exact bY _ _ _ (Mf T) (hr.mono ()) T.Di.F.kp T.Di.b
 ·exact bY _ _ _ (KM T) (hr.mono ()) T.xb.F.kp T.xb.b
 ·exact bY _ _ _ (KO T) (hr.mono ()) T.xf.F.kp T.xf.b
 ·exact bY _ _ _ (KC T) (hr.mono ()) T.wY.F.kp T.wY.b
 ·exact bY _ _ _ (GF T) (hr.mono ()) T.m8.F.kp T.m8.b
 ·exact bY _ _ _ (Iw T) (hr.mono ()) T.rP.F.kp T.rP.b
 ·exact bY _ _ _ (Mc T) (hr.mono ()) T.De.F.kp T.De.b
 ·exact bY _ _ _ (KJ T) (hr.mono ()) T.w8.F.kp T.w8.b
 ·exact bY _ _ _ (KF T) (hr.mono ()) T.w6.F.kp T.w6.b
 ·exact bY _ _ _ (Iu T) (hr.mono ()) T.rN.F.kp T.rN.b
def pH (T:Tx K mg):Sp:=fun vs H Q _=>∃(b r:Addr) (p:Int),vs= [.ref b,.int p,.ref r]∧((p=0∧zH T [.ref b,.ref r] H Q E0)∨(p=1∧CP T [.ref b,.ref r] H Q E0)∨(p=2∧zF T [.ref b,.ref r] H Q E0)∨(p=3∧zI T [.ref b,.ref r] H Q E0)∨(p=4∧zw T [.ref b,.ref r] H Q E0)∨(p=5∧uu T [.ref b,.ref r] H Q E0)∨(p=6∧wM T [.ref b,.ref r] H Q E0)∨(p=7∧CL T [.ref b,.ref r] H Q E0)∨(p=8∧zA T [.ref b,.ref r] H Q E0)∨(p=9∧zy T [.ref b,.ref r] H Q E0)∨(p=10∧wJ T [.ref b,.ref r] H Q E0))
theorem oZ (T:Tx K mg):dO P w base T.gS 8 (pH T):=by
 refine T.gS.okA jj ?_
 rintro _ A _ s H _ Q E hr
 refine tq ?_
 rintro b r p rfl k
 refine⟨_,(ac (aZ 3 jj.nd (l4 (JZ T.aO) (pv 1)))
   (ae (aj (pc (i:=3) (jd T) rfl (Or.inl rfl) (oR T hr) (ab (pv 0) (ab (pv 2) ad)))))),?_⟩
 rcases k with⟨rfl,k⟩ | ⟨rfl,k⟩ | ⟨rfl,k⟩ | ⟨rfl,k⟩ | ⟨rfl,k⟩ | ⟨rfl,k⟩ | ⟨rfl,k⟩ | ⟨rfl,k⟩ | ⟨rfl,k⟩ | ⟨rfl,k⟩ | ⟨rfl,k⟩
 ·exact fj _ rfl T.aO.a _ _ _ rfl (T.aO.gd _ _) rfl rfl _ _ rfl (.inl ⟨rfl,rfl⟩) (bD _ rfl _ rfl k)
 ·exact fj _ rfl T.aO.a _ _ _ rfl (T.aO.gd _ _) rfl rfl _ _ rfl (.inr (.inl ⟨rfl,rfl⟩)) (bD _ rfl _ rfl k)
 ·exact fj _ rfl T.aO.a _ _ _ rfl (T.aO.gd _ _) rfl rfl _ _ rfl (.inr (.inr (.inl ⟨rfl,rfl⟩))) (bD _ rfl _ rfl k)
 ·exact fj _ rfl T.aO.a _ _ _ rfl (T.aO.gd _ _) rfl rfl _ _ rfl (.inr (.inr (.inr (.inl ⟨rfl,rfl⟩)))) (bD _ rfl _ rfl k)
 ·exact fj _ rfl T.aO.a _ _ _ rfl (T.aO.gd _ _) rfl rfl _ _ rfl (.inr (.inr (.inr (.inr (.inl ⟨rfl,rfl⟩))))) (bD _ rfl _ rfl k)
 ·exact fj _ rfl T.aO.a _ _ _ rfl (T.aO.gd _ _) rfl rfl _ _ rfl (.inr (.inr (.inr (.inr (.inr (.inl ⟨rfl,rfl⟩)))))) (bD _ rfl _ rfl k)
 ·exact fj _ rfl T.aO.a _ _ _ rfl (T.aO.gd _ _) rfl rfl _ _ rfl (.inr (.inr (.inr (.inr (.inr (.inr (.inl ⟨rfl,rfl⟩))))))) (bD _ rfl _ rfl k)
 ·exact fj _ rfl T.aO.a _ _ _ rfl (T.aO.gd _ _) rfl rfl _ _ rfl (.inr (.inr (.inr (.inr (.inr (.inr (.inr (.inl ⟨rfl,rfl⟩)))))))) (bD _ rfl _ rfl k)
 ·exact fj _ rfl T.aO.a _ _ _ rfl (T.aO.gd _ _) rfl rfl _ _ rfl (.inr (.inr (.inr (.inr (.inr (.inr (.inr (.inr (.inl ⟨rfl,rfl⟩))))))))) (bD _ rfl _ rfl k)
 ·exact fj _ rfl T.aO.a _ _ _ rfl (T.aO.gd _ _) rfl rfl _ _ rfl (.inr (.inr (.inr (.inr (.inr (.inr (.inr (.inr (.inr (.inl ⟨rfl,rfl⟩)))))))))) (bD _ rfl _ rfl k)
 ·exact fj _ rfl T.aO.a _ _ _ rfl (T.aO.gd _ _) rfl rfl _ _ rfl (.inr (.inr (.inr (.inr (.inr (.inr (.inr (.inr (.inr (.inr (⟨rfl,rfl⟩))))))))))) (bD _ rfl _ rfl k)
def jw (T:Tx K mg):Addr→Sp→Prop:=fun f sp=>(f=T.m5.f∧sp=ur T)∨(f=T.m6.f∧sp=ut T)∨(f=T.xg.f∧sp=zK T)∨(f=T.rE.f∧sp=wC T)∨(f=T.wZ.f∧sp=zx T)
theorem qi {A:Around} (T:Tx K mg) (hr:eU 11 A):∀f sp,jw T f sp→∃k fd ps,j1 P w K mg base Bi k f fd ps sp∧eU k A∧PySem.W.keepIn K (.ref f)=true∧jc K fd ps []:=by
 rintro f sp (⟨rfl,rfl⟩ | ⟨rfl,rfl⟩ | ⟨rfl,rfl⟩ | ⟨rfl,rfl⟩ | ⟨rfl,rfl⟩)
 ·exact bY _ _ _ (GB T) (hr.mono ()) T.m5.F.kp T.m5.b
 ·exact bY _ _ _ (GE T) (hr.mono ()) T.m6.F.kp T.m6.b
 ·exact bY _ _ _ (KR T) (hr.mono ()) T.xg.F.kp T.xg.b
 ·exact bY _ _ _ (Iq T) (hr.mono ()) T.rE.F.kp T.rE.b
 ·exact bY _ _ _ (KD T) (hr.mono ()) T.wZ.F.kp T.wZ.b
def rc (T:Tx K mg):Sp:=fun vs H Q _=>∃(b r:Addr) (p:Int),vs= [.ref b,.int p,.ref r]∧((p=17∧ur T [.ref b,.ref r] H Q E0)∨(p=18∧ut T [.ref b,.ref r] H Q E0)∨(p=19∧zK T [.ref b,.ref r] H Q E0)∨(p=27∧wC T [.ref b,.ref r] H Q E0)∨(p=28∧zx T [.ref b,.ref r] H Q E0))
theorem qA (T:Tx K mg):dO P w base T.iA 12 (rc T):=by
 refine T.iA.okA jL ?_
 rintro _ A _ s H _ Q E hr
 refine tq ?_
 rintro b r p rfl k
 refine⟨_,(ac (aZ 3 jL.nd (l4 (JZ T.bS) (pv 1)))
   (ae (aj (pc (i:=3) (jw T) rfl (Or.inl rfl) (qi T hr) (ab (pv 0) (ab (pv 2) ad)))))),?_⟩
 rcases k with⟨rfl,k⟩ | ⟨rfl,k⟩ | ⟨rfl,k⟩ | ⟨rfl,k⟩ | ⟨rfl,k⟩
 ·exact fj _ rfl T.bS.a _ _ _ rfl (T.bS.gd _ _) rfl rfl _ _ rfl (.inl ⟨rfl,rfl⟩) (bD _ rfl _ rfl k)
 ·exact fj _ rfl T.bS.a _ _ _ rfl (T.bS.gd _ _) rfl rfl _ _ rfl (.inr (.inl ⟨rfl,rfl⟩)) (bD _ rfl _ rfl k)
 ·exact fj _ rfl T.bS.a _ _ _ rfl (T.bS.gd _ _) rfl rfl _ _ rfl (.inr (.inr (.inl ⟨rfl,rfl⟩))) (bD _ rfl _ rfl k)
 ·exact fj _ rfl T.bS.a _ _ _ rfl (T.bS.gd _ _) rfl rfl _ _ rfl (.inr (.inr (.inr (.inl ⟨rfl,rfl⟩)))) (bD _ rfl _ rfl k)
 ·exact fj _ rfl T.bS.a _ _ _ rfl (T.bS.gd _ _) rfl rfl _ _ rfl (.inr (.inr (.inr (.inr (⟨rfl,rfl⟩))))) (bD _ rfl _ rfl k)
def jx (T:Tx K mg):Addr→Sp→Prop:=fun f sp=>(f=T.vh.f∧sp=wL T)∨(f=T.zU.f∧sp=zz T)∨(f=T.vd.f∧sp=wE T)∨(f=T.pW.f∧sp=ux T)∨(f=T.ml.f∧sp=rj T)∨(f=T.vb.f∧sp=wA T)∨(f=T.zV.f∧sp=zB T)
theorem qj {A:Around} (T:Tx K mg) (hr:eU 8 A):∀f sp,jx T f sp→∃k fd ps,j1 P w K mg base Bi k f fd ps sp∧eU k A∧PySem.W.keepIn K (.ref f)=true∧jc K fd ps []:=by
 rintro f sp (⟨rfl,rfl⟩ | ⟨rfl,rfl⟩ | ⟨rfl,rfl⟩ | ⟨rfl,rfl⟩ | ⟨rfl,rfl⟩ | ⟨rfl,rfl⟩ | ⟨rfl,rfl⟩)
 ·exact bY _ _ _ (Iv T) (hr.mono ()) T.vh.F.kp T.vh.b
 ·exact bY _ _ _ (KH T) (hr.mono ()) T.zU.F.kp T.zU.b
 ·exact bY _ _ _ (Ir T) (hr.mono ()) T.vd.F.kp T.vd.b
 ·exact bY _ _ _ (GJ T) (hr.mono ()) T.pW.F.kp T.pW.b
 ·exact bY _ _ _ (Fa T) (hr.mono ()) T.ml.F.kp T.ml.b
 ·exact bY _ _ _ (Ip T) (hr.mono ()) T.vb.F.kp T.vb.b
 ·exact bY _ _ _ (KK T) (hr.mono ()) T.zV.F.kp T.zV.b
def re (T:Tx K mg):Sp:=fun vs H Q _=>∃(b r:Addr) (p:Int),vs= [.ref b,.int p,.ref r]∧((p=20∧wL T [.ref b,.ref r] H Q E0)∨(p=21∧zz T [.ref b,.ref r] H Q E0)∨(p=22∧wE T [.ref b,.ref r] H Q E0)∨(p=23∧ux T [.ref b,.ref r] H Q E0)∨(p=24∧rj T [.ref b,.ref r] H Q E0)∨(p=25∧wA T [.ref b,.ref r] H Q E0)∨(p=26∧zB T [.ref b,.ref r] H Q E0))
theorem qB (T:Tx K mg):dO P w base T.iB 9 (re T):=by
 refine T.iB.okA jM ?_
 rintro _ A _ s H _ Q E hr
 refine tq ?_
 rintro b r p rfl k
 refine⟨_,(ac (aZ 3 jM.nd (l4 (JZ T.bI) (pv 1)))
   (ae (aj (pc (i:=3) (jx T) rfl (Or.inl rfl) (qj T hr) (ab (pv 0) (ab (pv 2) ad)))))),?_⟩
 rcases k with⟨rfl,k⟩ | ⟨rfl,k⟩ | ⟨rfl,k⟩ | ⟨rfl,k⟩ | ⟨rfl,k⟩ | ⟨rfl,k⟩ | ⟨rfl,k⟩
 ·exact fj _ rfl T.bI.a _ _ _ rfl (T.bI.gd _ _) rfl rfl _ _ rfl (.inl ⟨rfl,rfl⟩) (bD _ rfl _ rfl k)
 ·exact fj _ rfl T.bI.a _ _ _ rfl (T.bI.gd _ _) rfl rfl _ _ rfl (.inr (.inl ⟨rfl,rfl⟩)) (bD _ rfl _ rfl k)
 ·exact fj _ rfl T.bI.a _ _ _ rfl (T.bI.gd _ _) rfl rfl _ _ rfl (.inr (.inr (.inl ⟨rfl,rfl⟩))) (bD _ rfl _ rfl k)
 ·exact fj _ rfl T.bI.a _ _ _ rfl (T.bI.gd _ _) rfl rfl _ _ rfl (.inr (.inr (.inr (.inl ⟨rfl,rfl⟩)))) (bD _ rfl _ rfl k)
 ·exact fj _ rfl T.bI.a _ _ _ rfl (T.bI.gd _ _) rfl rfl _ _ rfl (.inr (.inr (.inr (.inr (.inl ⟨rfl,rfl⟩))))) (bD _ rfl _ rfl k)
 ·exact fj _ rfl T.bI.a _ _ _ rfl (T.bI.gd _ _) rfl rfl _ _ rfl (.inr (.inr (.inr (.inr (.inr (.inl ⟨rfl,rfl⟩)))))) (bD _ rfl _ rfl k)
 ·exact fj _ rfl T.bI.a _ _ _ rfl (T.bI.gd _ _) rfl rfl _ _ rfl (.inr (.inr (.inr (.inr (.inr (.inr (⟨rfl,rfl⟩))))))) (bD _ rfl _ rfl k)
def vq (T:Tx K mg):Sp:=fun vs H Q _=>∃(p:Int),vs= [.int p]∧Q (.bl (DP [(0,.ref T.xc.f),(1,.ref T.Di.f),(2,.ref T.xb.f),(3,.ref T.xf.f),(4,.ref T.wY.f),(5,.ref T.m8.f),(6,.ref T.rP.f),(7,.ref T.De.f),(8,.ref T.w8.f),(9,.ref T.w6.f),(10,.ref T.rN.f)] p).isSome) H
theorem vj (T:Tx K mg):dO P w base T.kT 1 (vq T):=by
 refine T.kT.okA vn ?_
 rintro _ A _ s H _ Q E hr
 refine a4 ?_
 rintro p rfl k
 refine⟨_,(ae (aj (Iy (pv 0) (JZ T.aO)))),?_⟩
 exact cP _ rfl T.aO.a _ p rfl (T.aO.gd _ _) rfl k
def yo (T:Tx K mg):Sp:=fun vs H Q _=>∃(p:Int),vs= [.int p]∧Q (.bl (DP [(11,.ref T.rQ.f),(12,.ref T.m4.f),(13,.ref T.kX.f),(14,.ref T.m9.f),(15,.ref T.Dh.f),(16,.ref T.w9.f)] p).isSome) H
theorem xD (T:Tx K mg):dO P w base T.m7 1 (yo T):=by
 refine T.m7.okA ya ?_
 rintro _ A _ s H _ Q E hr
 refine a4 ?_
 rintro p rfl k
 refine⟨_,(ae (aj (Iy (pv 0) (JZ T.bN)))),?_⟩
 exact cP _ rfl T.bN.a _ p rfl (T.bN.gd _ _) rfl k
def wG (T:Tx K mg):Sp:=fun vs H Q _=>∃(p:Int),vs= [.int p]∧Q (.bl (DP [(17,.ref T.m5.f),(18,.ref T.m6.f),(19,.ref T.xg.f),(27,.ref T.rE.f),(28,.ref T.wZ.f)] p).isSome) H
theorem wg (T:Tx K mg):dO P w base T.lP 1 (wG T):=by
 refine T.lP.okA wv ?_
 rintro _ A _ s H _ Q E hr
 refine a4 ?_
 rintro p rfl k
 refine⟨_,(ae (aj (Iy (pv 0) (JZ T.bS)))),?_⟩
 exact cP _ rfl T.bS.a _ p rfl (T.bS.gd _ _) rfl k
inductive Cs:Nat→List Int→List (List Int)→Prop
 | c0 (a b:Int):Cs 0 [a,b] []
 | c1 (a:Int):Cs 1 [a] []
 | c2 (a b:Int):Cs 2 [a,b] []
 | c3 (a b:Int):Cs 3 [a,b] []
 | c4 (a b:Int):Cs 4 [a,b] []
 | c5 (a b:Int):Cs 5 [a,b] []
 | c6 (a:Int):Cs 6 [a] []
 | c7 (a b:Int):Cs 7 [a,b] []
 | c8 (a b:Int):Cs 8 [a,b] []
 | c9 (a b:Int):Cs 9 [a,b] []
 | c10 (a b c:Int):Cs 10 [a,b,c] []
 | c11 (a b c:Int):Cs 11 [a,b,c] []
 | c12 (a:Int) (u:List Int):Cs 12 [a] [u]
 | c13 (a b:Int):Cs 13 [a,b] []
 | c14 (a b c:Int):Cs 14 [a,b,c] []
 | c15 (a:Int) (u:List Int):Cs 15 [a] [u]
 | c16 (a b:Int) (u:List Int):Cs 16 [a,b] [u]
 | c17 (a b:Int) (u v:List Int):Cs 17 [a,b] [u,v]
 | c18 (a:Int):Cs 18 [a] []
 | c19 (a:Int):Cs 19 [a] []
 | c20 (a b:Int):Cs 20 [a,b] []
 | c21 (a b:Int):Cs 21 [a,b] []
 | c22 (a b c:Int):Cs 22 [a,b,c] []
 | c23 (a:Int):Cs 23 [a] []
 | c24 (a:Int):Cs 24 [a] []
 | c25 (a b c d:Int):Cs 25 [a,b,c,d] []
 | c26 (a b c d:Int):Cs 26 [a,b,c,d] []
 | c27 (a b c d e:Int):Cs 27 [a,b,c,d,e] []
 | c28 (a b c d e f:Int):Cs 28 [a,b,c,d,e,f] []
theorem N9 {α:Type} {p:List α→Prop} (h:p []):∀us:List α,us.length=0→p us:=fun us e=>EF e▸h
theorem Pj {α:Type} {p:List α→Prop} (h:∀a,p [a]):∀us:List α,us.length=1→p us:=by
 intro us e
 cases us with
 | nil=>cases e
 | cons a l=>exact N9 (p:=fun l=>p (a::l)) (h a) l (Nat.succ.inj e)
theorem Pk {α:Type} {p:List α→Prop} (h:∀a b,p [a,b]):∀us:List α,us.length=2→p us:=by
 intro us e
 cases us with
 | nil=>cases e
 | cons a l=>exact Pj (p:=fun l=>p (a::l)) (h a) l (Nat.succ.inj e)
theorem QM {α:Type} {p:List α→Prop} (h:∀a b c,p [a,b,c]):∀us:List α,us.length=3→p us:=by
 intro us e
 cases us with
 | nil=>cases e
 | cons a l=>exact Pk (p:=fun l=>p (a::l)) (h a) l (Nat.succ.inj e)
theorem QN {α:Type} {p:List α→Prop} (h:∀a b c d,p [a,b,c,d]):∀us:List α,us.length=4→p us:=by
 intro us e
 cases us with
 | nil=>cases e
 | cons a l=>exact QM (p:=fun l=>p (a::l)) (h a) l (Nat.succ.inj e)
theorem QO {α:Type} {p:List α→Prop} (h:∀a b c d e,p [a,b,c,d,e]):∀us:List α,us.length=5→p us:=by
 intro us e
 cases us with
 | nil=>cases e
 | cons a l=>exact QN (p:=fun l=>p (a::l)) (h a) l (Nat.succ.inj e)
theorem Rv {α:Type} {p:List α→Prop} (h:∀a b c d e f,p [a,b,c,d,e,f]):∀us:List α,us.length=6→p us:=by
 intro us e
 cases us with
 | nil=>cases e
 | cons a l=>exact QO (p:=fun l=>p (a::l)) (h a) l (Nat.succ.inj e)
theorem FS {m n a b:Nat} (e:some (m,n)=some (a,b)):a=m∧b=n:=by cases e;exact⟨rfl,rfl⟩
section
variable {P:List Int→List (List Int)→Prop} {cl:List Int} {xs:List (List Int)}
theorem KY (h:∀a,P [a] []) (q:some (1,0)=some (cl.length,xs.length)):P cl xs:=Pj (p:=fun l=>P l xs) (fun a=>N9 (p:=P _) (h a) xs (FS q).2) cl (FS q).1
theorem P3 (h:∀a u,P [a] [u]) (q:some (1,1)=some (cl.length,xs.length)):P cl xs:=Pj (p:=fun l=>P l xs) (fun a=>Pj (p:=P _) (h a) xs (FS q).2) cl (FS q).1
theorem CA (h:∀a b,P [a,b] []) (q:some (2,0)=some (cl.length,xs.length)):P cl xs:=Pk (p:=fun l=>P l xs) (fun a b=>N9 (p:=P _) (h a b) xs (FS q).2) cl (FS q).1
theorem Q0 (h:∀a b u,P [a,b] [u]) (q:some (2,1)=some (cl.length,xs.length)):P cl xs:=Pk (p:=fun l=>P l xs) (fun a b=>Pj (p:=P _) (h a b) xs (FS q).2) cl (FS q).1
theorem Q1 (h:∀a b u v,P [a,b] [u,v]) (q:some (2,2)=some (cl.length,xs.length)):P cl xs:=Pk (p:=fun l=>P l xs) (fun a b=>Pk (p:=P _) (h a b) xs (FS q).2) cl (FS q).1
theorem NP (h:∀a b c,P [a,b,c] []) (q:some (3,0)=some (cl.length,xs.length)):P cl xs:=QM (p:=fun l=>P l xs) (fun a b c=>N9 (p:=P _) (h a b c) xs (FS q).2) cl (FS q).1
theorem P4 (h:∀a b c d,P [a,b,c,d] []) (q:some (4,0)=some (cl.length,xs.length)):P cl xs:=QN (p:=fun l=>P l xs) (fun a b c d=>N9 (p:=P _) (h a b c d) xs (FS q).2) cl (FS q).1
theorem Q2 (h:∀a b c d e,P [a,b,c,d,e] []) (q:some (5,0)=some (cl.length,xs.length)):P cl xs:=QO (p:=fun l=>P l xs) (fun a b c d e=>N9 (p:=P _) (h a b c d e) xs (FS q).2) cl (FS q).1
theorem Q3 (h:∀a b c d e f,P [a,b,c,d,e,f] []) (q:some (6,0)=some (cl.length,xs.length)):P cl xs:=Rv (p:=fun l=>P l xs) (fun a b c d e f=>N9 (p:=P _) (h a b c d e f) xs (FS q).2) cl (FS q).1
end
theorem Rk:∀(p:Nat) (cl:List Int) (xs:List (List Int)),p≤28→PyVbdeab.shape (p:Int)=some (cl.length,xs.length)→Cs p cl xs:=by
 intro p cl xs hp e
 rcases p with _ | _ | _ | _ | _ | _ | _ | _ | _ | _ | _ | _ | _ | _ | _ | _ | _ | _ | _ | _ | _ | _ | _ | _ | _ | _ | _ | _ | _ | p
 ·exact CA .c0 e
 ·exact KY .c1 e
 ·exact CA .c2 e
 ·exact CA .c3 e
 ·exact CA .c4 e
 ·exact CA .c5 e
 ·exact KY .c6 e
 ·exact CA .c7 e
 ·exact CA .c8 e
 ·exact CA .c9 e
 ·exact NP .c10 e
 ·exact NP .c11 e
 ·exact P3 .c12 e
 ·exact CA .c13 e
 ·exact NP .c14 e
 ·exact P3 .c15 e
 ·exact Q0 .c16 e
 ·exact Q1 .c17 e
 ·exact KY .c18 e
 ·exact KY .c19 e
 ·exact CA .c20 e
 ·exact CA .c21 e
 ·exact NP .c22 e
 ·exact KY .c23 e
 ·exact KY .c24 e
 ·exact P4 .c25 e
 ·exact P4 .c26 e
 ·exact Q2 .c27 e
 ·exact Q3 .c28 e
 exact absurd hp (Nat.not_le.2 (Nat.le_add_left 29 p))
theorem yN {ns l:List Int} {i:Nat} {z:Int} (h:ns.drop i=l) (hz:z∈l):z∈ns:=List.mem_of_mem_drop (by rw [h];exact hz)
theorem ON {ns:List Int} {i:Nat} {a b c:Int} {wa rest:List Int} (hl:ns.length≤7500) (h:ns.drop i=a::b::c::(wa++rest)):wa.length≤7500:=by
 have:=cA List.length h
 simp only [C9,d8,bZ] at this
 omega
theorem kx {H H1:Hp} {A:Hp→List Addr→Nat→Prop} {B:Nat→Prop} {C D:Hp→Addr→Prop} (ki:KI H H1) (kk:∀H' q as' pos',A H' as' pos'→B pos'→C H' q→KI H H'→NF H q→D H' q):∀H' q as' pos',A H' as' pos'→B pos'→C H' q→KI H1 H'→NF H1 q→D H' q:=
 fun H2 p as2 pos2 w2 d2 e2 k2 n2=>kk H2 p as2 pos2 w2 d2 e2 (ki.trans k2) fun x xs q=>n2 x xs (ki x xs q)
def zt (T:Tx K mg):Sp:=fun vs H Q _=>∃(G:Gh) (b r l a:Addr) (as:List Addr) (S:State) (ns:List Int) (pos:Nat) (p:Nat) (cl:List Int) (xs:List (List Int)) (rest:List Int),vs= [.ref b,.ref r]∧Wd G T H b r l a as S ns pos∧ns.drop pos=(p:Int)::(cl++PyFlat.putRows xs++rest)∧PyVbdeab.shape (p:Int)=some (cl.length,xs.length)∧p≤28∧j7 ns∧ns.length≤7500∧
 ∀(H':Hp) (q:Addr) (as':List Addr) (pos':Nat),Wd G T H' b r l a as' (does S (((p:Int)::cl)::xs)).1 ns pos'→ns.drop pos'=rest→H' q=some (.lst ((does S (((p:Int)::cl)::xs)).2.map V.int))→KI H H'→NF H q→Q (.ref q) H'
theorem yR (T:Tx K mg):dO P w base T.oK 13 (zt T):=by
 refine T.oK.okA pD ?_
 rintro _ A _ s H _ Q E hr
 refine lC fun G b r l a as=>?_
 refine Jb ?_
 rintro S ns pos p cl xs rest rfl W hd hsh hp28 hsm
 rintro⟨hln,kk⟩
 refine⟨_,(ac (aZ 2 pD.nd (eO (pv 1) T.au (ah T) hr))
   (ac (aT (aS (bj T.kT (vj T) hr (ab (pv 2) ad))) (ae (aj (bj T.gS (oZ T) hr (ab (pv 0) (ab (pv 2) (ab (pv 1) ad)))))) aG)
   (ac (aT (aS (bj T.m7 (xD T) hr (ab (pv 2) ad))) (ae (aj (bj T.ja (sV T) hr (ab (pv 0) (ab (pv 2) (ab (pv 1) ad)))))) aG)
   (ac (aT (aS (bj T.lP (wg T) hr (ab (pv 2) ad))) (ae (aj (bj T.iA (qA T) hr (ab (pv 0) (ab (pv 2) (ab (pv 1) ad)))))) aG)
   (ae (aj (bj T.iB (qB T) hr (ab (pv 0) (ab (pv 2) (ab (pv 1) ad)))))))))),?_⟩
 obtain⟨g1,hd1⟩:=lg hd
 obtain⟨dr,hr0⟩:=id W.rd
 refine cP _ rfl r dr _ rfl hr0 rfl ⟨r,(j4 a pos ns _ rfl ⟨dr,hr0⟩ W.sq g1 fun H1 hr1 kp1=>?_)⟩
 have W1:=W.reader hr1 kp1
 have ki1:=KI.keep1 kp1 hr0
 have cz:=Rk p cl xs hp28 hsh
 clear hd hsh hp28
 cases cz with
 | c0 k x=>
  have hd1:ns.drop (pos+1)=k::x::rest:=by rw [hd1];rfl
  exact bd _ rfl 0 rfl _ rfl (i3 _ rfl _ rfl _ rfl b r 0 rfl (.inl ⟨rfl,(im G b r l a as S ns _ (.seed k x) rest rfl W1 (cK k x hd1 rfl) (kx ki1 kk))⟩))
 | c1 k=>
  have hd1:ns.drop (pos+1)=k::rest:=by rw [hd1];rfl
  exact bd _ rfl 1 rfl _ rfl (i3 _ rfl _ rfl _ rfl b r 1 rfl (.inr (.inl ⟨rfl,(im G b r l a as S ns _ (.raw k) rest rfl W1 ⟨k,hd1,rfl⟩ (kx ki1 kk))⟩)))
 | c2 k n=>
  have hd1:ns.drop (pos+1)=k::n::rest:=by rw [hd1];rfl
  exact bd _ rfl 2 rfl _ rfl (i3 _ rfl _ rfl _ rfl b r 2 rfl (.inr (.inr (.inl ⟨rfl,(im G b r l a as S ns _ (.raws k n) rest rfl W1 (cK k n hd1 rfl) (kx ki1 kk))⟩))))
 | c3 k n=>
  have hd1:ns.drop (pos+1)=k::n::rest:=by rw [hd1];rfl
  exact bd _ rfl 3 rfl _ rfl (i3 _ rfl _ rfl _ rfl b r 3 rfl (.inr (.inr (.inr (.inl ⟨rfl,(im G b r l a as S ns _ (.skip k n) rest rfl W1 (cK k n hd1 rfl) (kx ki1 kk))⟩)))))
 | c4 k n=>
  have hd1:ns.drop (pos+1)=k::n::rest:=by rw [hd1];rfl
  exact bd _ rfl 4 rfl _ rfl (i3 _ rfl _ rfl _ rfl b r 4 rfl (.inr (.inr (.inr (.inr (.inl ⟨rfl,(im G b r l a as S ns _ (.back k n) rest rfl W1 (cK k n hd1 rfl) (kx ki1 kk))⟩))))))
 | c5 k n=>
  have hd1:ns.drop (pos+1)=k::n::rest:=by rw [hd1];rfl
  exact bd _ rfl 5 rfl _ rfl (i3 _ rfl _ rfl _ rfl b r 5 rfl (.inr (.inr (.inr (.inr (.inr (.inl ⟨rfl,(im G b r l a as S ns _ (.mirror k n) rest rfl W1 (cK k n hd1 rfl) (kx ki1 kk))⟩)))))))
 | c6 k=>
  have hd1:ns.drop (pos+1)=k::rest:=by rw [hd1];rfl
  exact bd _ rfl 6 rfl _ rfl (i3 _ rfl _ rfl _ rfl b r 6 rfl (.inr (.inr (.inr (.inr (.inr (.inr (.inl ⟨rfl,(im G b r l a as S ns _ (.where_ k) rest rfl W1 ⟨k,hd1,rfl⟩ (kx ki1 kk))⟩))))))))
 | c7 x y=>
  have hd1:ns.drop (pos+1)=x::y::rest:=by rw [hd1];rfl
  exact bd _ rfl 7 rfl _ rfl (i3 _ rfl _ rfl _ rfl b r 7 rfl (.inr (.inr (.inr (.inr (.inr (.inr (.inr (.inl ⟨rfl,(im G b r l a as S ns _ (.far x y) rest rfl W1 (cK x y hd1 rfl) (kx ki1 kk))⟩)))))))))
 | c8 k y=>
  have hd1:ns.drop (pos+1)=k::y::rest:=by rw [hd1];rfl
  exact bd _ rfl 8 rfl _ rfl (i3 _ rfl _ rfl _ rfl b r 8 rfl (.inr (.inr (.inr (.inr (.inr (.inr (.inr (.inr (.inl ⟨rfl,(im G b r l a as S ns _ (.goto k y) rest rfl W1 (cK k y hd1 rfl) (kx ki1 kk))⟩))))))))))
 | c9 k j=>
  have hd1:ns.drop (pos+1)=k::j::rest:=by rw [hd1];rfl
  exact bd _ rfl 9 rfl _ rfl (i3 _ rfl _ rfl _ rfl b r 9 rfl (.inr (.inr (.inr (.inr (.inr (.inr (.inr (.inr (.inr (.inl ⟨rfl,(im G b r l a as S ns _ (.copy k j) rest rfl W1 (cK k j hd1 rfl) (kx ki1 kk))⟩)))))))))))
 | c10 k n g=>
  have hd1:ns.drop (pos+1)=k::n::g::rest:=by rw [hd1];rfl
  exact bd _ rfl 10 rfl _ rfl (i3 _ rfl _ rfl _ rfl b r 10 rfl (.inr (.inr (.inr (.inr (.inr (.inr (.inr (.inr (.inr (.inr (⟨rfl,(im G b r l a as S ns _ (.space k n g) rest rfl W1 ⟨k,(cK n g hd1 rfl)⟩ (kx ki1 kk))⟩))))))))))))
 | c11 k u v=>
  have hd1:ns.drop (pos+1)=k::u::v::rest:=by rw [hd1];rfl
  exact bd _ rfl 11 rfl _ rfl (bd _ rfl 11 rfl _ rfl (i3 _ rfl _ rfl _ rfl b r 11 rfl (.inl ⟨rfl,(im G b r l a as S ns _ (.whole k u v) rest rfl W1 ⟨k,(cK u v hd1 rfl)⟩ (kx ki1 kk))⟩)))
 | c12 k ws=>
  have hd1:ns.drop (pos+1)=k::(ws.length:Int)::(ws++rest):=by rw [hd1];simp [PyFlat.putRows,PyFlat.putRow]
  exact bd _ rfl 12 rfl _ rfl (bd _ rfl 12 rfl _ rfl (i3 _ rfl _ rfl _ rfl b r 12 rfl (.inr (.inl ⟨rfl,(im G b r l a as S ns _ (.choose k ws) rest rfl W1 (h9 k ws.length ws hd1 rfl rfl) (kx ki1 kk))⟩))))
 | c13 k n=>
  have hd1:ns.drop (pos+1)=k::n::rest:=by rw [hd1];rfl
  exact bd _ rfl 13 rfl _ rfl (bd _ rfl 13 rfl _ rfl (i3 _ rfl _ rfl _ rfl b r 13 rfl (.inr (.inr (.inl ⟨rfl,(im G b r l a as S ns _ (.shuffle k n) rest rfl W1 (cK k n hd1 rfl) (kx ki1 kk))⟩)))))
 | c14 k n m=>
  have hd1:ns.drop (pos+1)=k::n::m::rest:=by rw [hd1];rfl
  exact bd _ rfl 14 rfl _ rfl (bd _ rfl 14 rfl _ rfl (i3 _ rfl _ rfl _ rfl b r 14 rfl (.inr (.inr (.inr (.inl ⟨rfl,(im G b r l a as S ns _ (.sample k n m) rest rfl W1 ⟨k,(cK n m hd1 rfl)⟩ (kx ki1 kk))⟩))))))
 | c15 k ws=>
  have hd1:ns.drop (pos+1)=k::(ws.length:Int)::(ws++rest):=by rw [hd1];simp [PyFlat.putRows,PyFlat.putRow]
  exact bd _ rfl 15 rfl _ rfl (bd _ rfl 15 rfl _ rfl (i3 _ rfl _ rfl _ rfl b r 15 rfl (.inr (.inr (.inr (.inr (.inl ⟨rfl,(im G b r l a as S ns _ (.mix k ws) rest rfl W1 (h9 k ws.length ws hd1 rfl rfl) (kx ki1 kk))⟩)))))))
 | c16 k m ws=>
  have hd1:ns.drop (pos+1)=k::m::(ws.length:Int)::(ws++rest):=by rw [hd1];simp [PyFlat.putRows,PyFlat.putRow]
  exact bd _ rfl 16 rfl _ rfl (bd _ rfl 16 rfl _ rfl (i3 _ rfl _ rfl _ rfl b r 16 rfl (.inr (.inr (.inr (.inr (.inr (⟨rfl,(im G b r l a as S ns _ (.lots k m ws) rest rfl W1 ⟨k,(h9 m ws.length ws hd1 rfl rfl)⟩ (kx ki1 kk))⟩))))))))
 | c17 d kind wa wb=>
  have hd1:ns.drop (pos+1)=d::kind::(wa.length:Int)::(wa++((wb.length:Int)::(wb++rest))):=by rw [hd1];simp [PyFlat.putRows,PyFlat.putRow]
  exact bd _ rfl 17 rfl _ rfl (bd _ rfl 17 rfl _ rfl (bd _ rfl 17 rfl _ rfl (i3 _ rfl _ rfl _ rfl b r 17 rfl (.inl ⟨rfl,(im G b r l a as S ns _ (.define d kind wa wb) rest rfl W1 (ju d kind wa.length wa wb.length wb hd1 rfl rfl rfl (fun z hz=>hsm z (yN hd1 (by simp [hz]))) (fun z hz=>hsm z (yN hd1 (by simp [hz]))) (ON hln hd1)) (kx ki1 kk))⟩))))
 | c18 d=>
  have hd1:ns.drop (pos+1)=d::rest:=by rw [hd1];rfl
  exact bd _ rfl 18 rfl _ rfl (bd _ rfl 18 rfl _ rfl (bd _ rfl 18 rfl _ rfl (i3 _ rfl _ rfl _ rfl b r 18 rfl (.inr (.inl ⟨rfl,(im G b r l a as S ns _ (.forget d) rest rfl W1 ⟨d,hd1,rfl⟩ (kx ki1 kk))⟩)))))
 | c19 d=>
  have hd1:ns.drop (pos+1)=d::rest:=by rw [hd1];rfl
  exact bd _ rfl 19 rfl _ rfl (bd _ rfl 19 rfl _ rfl (bd _ rfl 19 rfl _ rfl (i3 _ rfl _ rfl _ rfl b r 19 rfl (.inr (.inr (.inl ⟨rfl,(im G b r l a as S ns _ (.told d) rest rfl W1 ⟨d,hd1,rfl⟩ (kx ki1 kk))⟩))))))
 | c20 d u=>
  have hd1:ns.drop (pos+1)=d::u::rest:=by rw [hd1];rfl
  exact bd _ rfl 20 rfl _ rfl (bd _ rfl 20 rfl _ rfl (bd _ rfl 20 rfl _ rfl (i3 _ rfl _ rfl _ rfl b r 20 rfl (.inl ⟨rfl,(im G b r l a as S ns _ (.value d u) rest rfl W1 (cK d u hd1 rfl) (kx ki1 kk))⟩))))
 | c21 d k=>
  have hd1:ns.drop (pos+1)=d::k::rest:=by rw [hd1];rfl
  exact bd _ rfl 21 rfl _ rfl (bd _ rfl 21 rfl _ rfl (bd _ rfl 21 rfl _ rfl (i3 _ rfl _ rfl _ rfl b r 21 rfl (.inr (.inl ⟨rfl,(im G b r l a as S ns _ (.draw d k) rest rfl W1 (cK d k hd1 rfl) (kx ki1 kk))⟩)))))
 | c22 d k n=>
  have hd1:ns.drop (pos+1)=d::k::n::rest:=by rw [hd1];rfl
  exact bd _ rfl 22 rfl _ rfl (bd _ rfl 22 rfl _ rfl (bd _ rfl 22 rfl _ rfl (i3 _ rfl _ rfl _ rfl b r 22 rfl (.inr (.inr (.inl ⟨rfl,(im G b r l a as S ns _ (.draws d k n) rest rfl W1 ⟨d,(cK k n hd1 rfl)⟩ (kx ki1 kk))⟩))))))
 | c23 d=>
  have hd1:ns.drop (pos+1)=d::rest:=by rw [hd1];rfl
  exact bd _ rfl 23 rfl _ rfl (bd _ rfl 23 rfl _ rfl (bd _ rfl 23 rfl _ rfl (i3 _ rfl _ rfl _ rfl b r 23 rfl (.inr (.inr (.inr (.inl ⟨rfl,(im G b r l a as S ns _ (.shares d) rest rfl W1 ⟨d,hd1,rfl⟩ (kx ki1 kk))⟩)))))))
 | c24 d=>
  have hd1:ns.drop (pos+1)=d::rest:=by rw [hd1];rfl
  exact bd _ rfl 24 rfl _ rfl (bd _ rfl 24 rfl _ rfl (bd _ rfl 24 rfl _ rfl (i3 _ rfl _ rfl _ rfl b r 24 rfl (.inr (.inr (.inr (.inr (.inl ⟨rfl,(im G b r l a as S ns _ (.moments d) rest rfl W1 ⟨d,hd1,rfl⟩ (kx ki1 kk))⟩))))))))
 | c25 d p q t=>
  have hd1:ns.drop (pos+1)=d::p::q::t::rest:=by rw [hd1];rfl
  exact bd _ rfl 25 rfl _ rfl (bd _ rfl 25 rfl _ rfl (bd _ rfl 25 rfl _ rfl (i3 _ rfl _ rfl _ rfl b r 25 rfl (.inr (.inr (.inr (.inr (.inr (.inl ⟨rfl,(im G b r l a as S ns _ (.below d p q t) rest rfl W1 ⟨d,(h9 p q t hd1 rfl (hsm q (yN hd1 (by simp))))⟩ (kx ki1 kk))⟩)))))))))
 | c26 d p q t=>
  have hd1:ns.drop (pos+1)=d::p::q::t::rest:=by rw [hd1];rfl
  exact bd _ rfl 26 rfl _ rfl (bd _ rfl 26 rfl _ rfl (bd _ rfl 26 rfl _ rfl (i3 _ rfl _ rfl _ rfl b r 26 rfl (.inr (.inr (.inr (.inr (.inr (.inr (⟨rfl,(im G b r l a as S ns _ (.hits d p q t) rest rfl W1 ⟨d,(h9 p q t hd1 rfl (hsm q (yN hd1 (by simp))))⟩ (kx ki1 kk))⟩))))))))))
 | c27 d e f v w=>
  have hd1:ns.drop (pos+1)=d::e::f::v::w::rest:=by rw [hd1];rfl
  exact bd _ rfl 27 rfl _ rfl (bd _ rfl 27 rfl _ rfl (bd _ rfl 27 rfl _ rfl (i3 _ rfl _ rfl _ rfl b r 27 rfl (.inr (.inr (.inr (.inl ⟨rfl,(im G b r l a as S ns _ (.blend d e f v w) rest rfl W1 ⟨d,(oE e f (cK v w hd1 rfl))⟩ (kx ki1 kk))⟩)))))))
 | c28 d e p q t s=>
  have hd1:ns.drop (pos+1)=d::e::p::q::t::s::rest:=by rw [hd1];rfl
  exact bd _ rfl 28 rfl _ rfl (bd _ rfl 28 rfl _ rfl (bd _ rfl 28 rfl _ rfl (i3 _ rfl _ rfl _ rfl b r 28 rfl (.inr (.inr (.inr (.inr (⟨rfl,(im G b r l a as S ns _ (.bend d e p q t s) rest rfl W1 ⟨d,(oE e p (bY q t s hd1 rfl (hsm q (yN hd1 (by simp))) (hsm s (yN hd1 (by simp)))))⟩ (kx ki1 kk))⟩))))))))
theorem Im {α:Type} {l:List α} {y:α} (h:l.Nodup) (hy:y ∉ l):(l++ [y]).Nodup:=by
 rw [List.nodup_append]
 refine⟨h,by simp,fun a ha b hb=>?_⟩
 rw [gQ.mp hb]
 intro e
 rw [e] at ha
 exact hy ha
def CC (T:Tx K mg):Sp:=fun vs H Q _=>∃(p dx:Addr),vs= [.ref p]∧H p=some (.ins T.aQ.C dx [])∧∀(H':Hp) (l l2:Addr) (as:List Addr),H' p=some (.ins T.aQ.C dx (QD l l2))→H' l=some (.lst (as.map V.ref))→as.Nodup→as.length=64→(∀(j:Nat) (x:Addr),as[j]?=some x→bU T H' x ⟨j,j,0,false⟩)→H' l2=some (.lst (List.replicate 64 .non))→l≠l2→(∀b o,H b=some o→b≠p→H' b=some o)→Q .non H'
theorem BT (T:Tx K mg):sP mg P w base T.og 3 (CC T):=by
 refine T.og.okA mL ?_
 rintro _ A _ s H _ Q E hr
 refine yw ?_
 rintro p dx rfl hp k
 refine⟨_,(ac (cv (pv 0) (j9 (own:= [("k",1)]) rfl mL.nd (cu rfl T.dk (ab (fk T.zW) ad)) (ci (N:= ["self","k"]) (sc:=ag ox) (by decide+kernel)) (fun _ _ _ _ _=>(kZ 1 mL.nd)) (fun _ _ _ _ _=>dS) (fun _ _ _ _ _=>(Fd (T.aK.mk' T.fq) (gZ T) (hr.mono ()) rfl T.aK.mgC T.fq.b .nil Ab (ab (pv 1) ad)))) rfl)
   (ae (cv (pv 0) (aB Mh (aI (ab de ad)) (fk T.HP)) rfl))),?_⟩
 refine⟨64,(b8 rfl () () fun D hD=>?_)⟩
 have npD:p≠D:=aw hp hD
 refine gA (n:=64) (fun i H'=>∃as:List Addr,H' D=some (.lst (as.map V.ref))∧as.Nodup∧as.length=i∧(∀(j:Nat) (x:Addr),as[j]?=some x→bU T H' x ⟨j,j,0,false⟩)∧aC H H') ?_ ?_ ?_
 ·exact bJ ([]) af (b8 List.nodup_nil rfl (fun j x h=>by simp at h) (aC.laid hD))
 ·rintro i H1 hi
  refine MU fun as h1 h2 h3 h4 s1=>?_
  refine dt rfl _ rfl ?_
  intro y dy ny nd _
  refine dh ny nd (fun H2 hy s2=>?_) ⟨i,by rw [kt],rfl⟩
  have nyD:y≠D:=Ne.symm (aw h1 ny)
  have nya:y ∉ as:=fun m=>by
   obtain⟨j,hj,e⟩:=List.getElem_of_mem m
   obtain⟨d,h⟩:=h4 j y (by rw [bH hj,e])
   rw [ny] at h
   cases h
  refine eQ _ (s2 _ _ h1) (by rw [aD,h3];show i<2 ^ 24;omega) (as++ [y]) ?_ (b8 (Im h2 nya) (by rw [bZ,h3];rfl) (fun j x hx=>?_) fun b o e=>?_)
  ·rw [af,dB]
   rfl
  ·rcases sO j as.length with q | q
   ·rw [n8 q] at hx
    obtain⟨d,h⟩:=h4 j x hx
    have h':=s2 _ _ h
    exact⟨d,by rw [ak (bg h' (s2 _ _ h1) (by intro z;cases z))];exact h'⟩
   ·rw [n9 q] at hx
    have hj:j - as.length=0:=by
     have:=(cg.mp hx).1
     simp at this
     omega
    rw [hj] at hx
    have ej:j=i:=by omega
    cases hx
    subst ej
    exact⟨dy,by rw [ak nyD];exact hy⟩
  ·have nbD:b≠D:=aw e hD
   rw [ak nbD]
   exact s2 _ _ (s1 _ _ e)
 ·rintro H1
  refine MU fun as h1 h2 h3 h4 s1=>?_
  refine gP _ rfl p _ dx ([]) rfl (s1 _ _ hp) T.aQ.cl (T.aQ.no _ ()) (by show 0<1000;decide) ?_
  refine⟨bC,fun A hA=>(bY A 64 _ rfl rfl af (b8 () () (by show 1*64≤2 ^ 24;decide) fun B hB=>?_))⟩
  have npA:p≠A:=aw af hA
  have hpA:=aC.laid (o:= .lst [V.non]) hA p _ af
  have npB:p≠B:=aw hpA hB
  have up:∀c o,H1 c=some o→c≠p→c≠A∧c≠B:=fun c o e n=>by
   have e1:bT H1 p (.ins T.aQ.C dx (lu "streams" (.ref D) [])) c=some o:=by rw [ak n];exact e
   exact⟨aw e1 hA,aw (aC.laid (o:= .lst [V.non]) hA c _ e1) hB⟩
  refine gP _ rfl p _ dx _ rfl (aC.laid hB p _ hpA) T.aQ.cl (T.aQ.no _ ()) (by show 1<1000;decide) ?_
  have keep:∀c o (x y z:HO),H1 c=some o→c≠p→bT (bT (bT (bT H1 p x) A y) B z) p (.ins T.aQ.C dx (QD D B)) c=some o:=fun c o x y z e n=>by
   obtain⟨n1,n2⟩:=up c o e n
   rw [ak n,ak n2,ak n1,ak n]
   exact e
  refine k _ D B as af (keep _ _ _ _ _ h1 (Ne.symm npD)) h2 h3 (fun j x hx=>?_) ?_ (up _ _ h1 (Ne.symm npD)).2 fun b o e hb=>keep _ _ _ _ _ (s1 _ _ e) hb
  ·obtain⟨d,h⟩:=h4 j x hx
   exact⟨d,keep _ _ _ _ _ h (bg h (s1 _ _ hp) (EX (by show ¬4=0;decide)))⟩
  ·rw [ak (Ne.symm npB),af]
   rfl
theorem Wd.listAt {T:Tx K mg} {H:Hp} {b r l a:Addr} {as:List Addr} {S:State} {ns:List Int} {pos:Nat} (W:Wd G T H b r l a as S ns pos) (ys:List V):Wd G T (bT H G.o (.lst ys)) b r l a as S ns pos:=by
 obtain⟨U,U1,hq,hl,nd,len,sl,at_,ok,dw⟩:=W
 obtain⟨dx,hb⟩:=U
 obtain⟨dr,hr⟩:=U1
 obtain⟨xs,h⟩:=dw.oo
 have kp:∀c u,H c=some u→c≠G.o→bT H G.o (.lst ys) c=some u:=fun c u e n=>by rw [ak n];exact e
 have kq:KQ (G.av l) H (bT H G.o (.lst ys)):= .set (by unfold Gh.av;simp) h
 refine⟨⟨dx,kp _ _ hb (bg hb h (by intro z;cases z))⟩,⟨dr,kp _ _ hr (bg hr h (by intro z;cases z))⟩,hq.keep (fun _ _ _ e=>kp _ _ e (bg e h (by intro z;cases z))),kp _ _ hl dw.n1,nd,len,sl,fun j x t h1 h2=>?_,ok,?_⟩
 ·obtain⟨d,h'⟩:=at_ j x t h1 h2
  exact⟨d,kp _ _ h' (bg h' h (by intro z;cases z))⟩
 ·obtain⟨U,dlen,_,n1,n2,n3,tb,to,bm⟩:=dw
  refine lB (fun vs h1 h2 h3=>?_) U
  exact⟨(df vs (kp _ _ h1 n2) h2 fun j v x a b=>(h3 j v x a b).kp kq.toKP),dlen,⟨ys,af⟩,n1,n2,n3,kq.t _ tb,to,bm.keep kq.x⟩
theorem EA {j:Nat} {t:Stream} (h:Vbdeab.start.streams[j]?=some t):t=⟨j,j,0,false⟩∧j<64:=by
 unfold Vbdeab.start at h
 simp only [du] at h
 cases e:(List.range 64)[j]? with
 | none=>rw [e] at h;cases h
 | some z=>
  rw [e] at h
  obtain⟨hj,ez⟩:=cg.mp e
  rw [List.getElem_range] at ez
  rw [ft] at hj
  subst ez
  exact⟨(bG h).symm,hj⟩
theorem IF {p:Int} (h:p<0∨28<p):PyVbdeab.shape p=none:=by
 unfold PyVbdeab.shape
 rw [if_neg ⋯,if_neg ⋯,if_neg ⋯,if_neg ⋯,if_neg ⋯,if_neg ⋯,if_neg ⋯,if_neg ⋯,if_neg ⋯,if_neg ⋯,if_neg ⋯,if_neg ⋯,if_neg ⋯,if_neg ⋯,if_neg ⋯,if_neg ⋯,if_neg ⋯,if_neg ⋯,if_neg ⋯,if_neg ⋯,if_neg ⋯,if_neg ⋯,if_neg ⋯,if_neg ⋯,if_neg ⋯,if_neg ⋯,if_neg ⋯,if_neg ⋯,if_neg ⋯]
theorem G6 {p:Int} {n k:Nat} (h:PyVbdeab.shape p=some (n,k)):0≤p∧p≤28:=by
 by_cases q:p<0∨28<p
 ·rw [IF q] at h
  cases h
 ·omega
theorem MQ:∀(p:Nat) (cl:List Int) (xs:List (List Int)),p≤28→PyVbdeab.shape (p:Int)=some (cl.length,xs.length)→PyVbdeab.whole (((p:Int)::cl)::xs)=(((p:Int)::cl)::xs)
 | p,cl,xs,a,b=>by cases Rk p cl xs a b<;>rfl
theorem MP {c:List (List Int)} (h:PyFlat.okCall PyVbdeab.shape c):PyVbdeab.whole c=c:=by
 refine tq ?_ h
 rintro p cl xs rfl hs
 obtain⟨h1,h2⟩:=G6 hs
 obtain⟨pn,rfl⟩:∃pn:Nat,p=(pn:Int):=⟨p.toNat,⋯⟩
 exact MQ pn cl xs ⋯ hs
theorem Go {α:Type} {f:α→α}:∀{l:List α},(∀x∈l,f x=x)→l.map f=l
 | [],_=>rfl
 | a::l,h=>by rw [e9,h a fD,Go fun x hx=>h x (dX _ hx)]
theorem Lg (x:List Int) (l:List (List Int)):PyFlat.told (x::l)=(x.length:Int)::(x++PyFlat.told l):=by
 unfold PyFlat.told
 rw [HF]
 rfl
theorem Mu {shape:Int→Option (Nat×Nat)} {c:List (List Int)} (h:PyFlat.okCall shape c) (rest:List (List (List Int))):∃(p:Int) (cl:List Int) (xs:List (List Int)),c=(p::cl)::xs∧shape p=some (cl.length,xs.length)∧PyFlat.put (c::rest)=p::(cl++PyFlat.putRows xs++PyFlat.put rest):=by
 refine tq ?_ h
 rintro p cl xs rfl hs
 refine h9 p cl xs rfl hs ?_
 show(p::cl)++PyFlat.putRows xs++PyFlat.put rest=_
 simp
def yi (T:Tx K mg):Sp:=fun vs H Q _=>∃(a Pl:Addr) (ns:List Int) (cs:List (List (List Int))),vs= [.ref a]∧z4 K H a ns∧Jg T Pl∧Dp K mg Pl H∧TB Pl H∧PyFlat.calls PyVbdeab.shape ns.length ns=some cs∧j7 ns∧ns.length≤7500∧(PyVbdeab.answers ns).length≤10000000∧∀(H':Hp) (p:Addr),H' p=some (.lst ((PyVbdeab.answers ns).map V.int))→Q (.ref p) H'
theorem E7 (T:Tx K mg):dO P w base T.mi 14 (yi T):=by
 refine T.mi.okA jN ?_
 rintro _ A _ s H _ Q E hr
 refine MW ?_
 rintro a Pl ns cs rfl hs hto hbm htb hcs
 refine nl fun hsm hln hlen kk=>?_
 refine⟨_,(ac (aZ 1 jN.nd (Mo (T.aQ.mk' T.og) (BT T) (hr.mono ()) rfl T.aQ.mgC T.og.b .nil Ab))
   (ac (aZ 2 jN.nd (Ax T.oI (yP T) hr (ab (pv 0) ad)))
   (ac (aZ 3 jN.nd (aI ad))
   (ac (lq cM (aV (aS (eO (pv 2) T.lN (we T) hr))) (ac (aZ 4 jN.nd (bj T.oK (yR T) hr (ab (pv 1) (ab (pv 2) ad))))
   (ac (gw (rZ lM uG uH jg (pv 3) (ab (a9 aW (by rfl) T.gx eA (ab (pv 4) ad)) ad)))
   (ae (gw (rZ lM FM FN uW (pv 3) (ab (pv 4) ad)))))))
   (ae (aj (pv 3))))))),?_⟩
 obtain⟨eput,okc⟩:=PyFlat.put_calls _ _ _ hcs
 have eans:PyVbdeab.answers ns=PyFlat.told (PyFlat.played VbdeabNeutral.step VbdeabNeutral.start cs):=by
  unfold PyVbdeab.answers PyVbdeab.calls
  rw [hcs]
  show PyFlat.told (PyFlat.played _ _ (cs.map PyVbdeab.whole))=_
  rw [Go fun c hc=>MP (okc c hc)]
 intro b db nb ndb _
 refine bV b db rfl af fun H1 l l2 as hb1 hl1 nd1 ln1 at1 hl2 nll kp1=>⟨rfl,?_⟩
 have s1:aC H H1:=aC.made nb ndb kp1
 refine⟨_,rfl,?_⟩
 intro r dr nr ndr _
 refine dh nr ndr (fun H2 hr2 s2=>?_) ⟨a,rfl,rfl⟩
 refine⟨bo _,fun o ho=>?_⟩
 have s3:aC H2 (bT H2 o (.lst [])):=aC.laid ho
 have S3:aC H (bT H2 o (.lst [])):=(s1.trans s2).trans s3
 have W0:Wd ⟨o,l2,Pl⟩ T (bT H2 o (.lst [])) b r l a as Vbdeab.start ns 0:=by
  refine⟨⟨db,s3 _ _ (s2 _ _ hb1)⟩,⟨dr,s3 _ _ hr2⟩,hs.keep (fun _ _ _ e=>S3 _ _ e),s3 _ _ (s2 _ _ hl1),nd1,ln1,?_,fun j x t h1 h2=>?_,fun t ht=>?_,⟨(df _ (s3 _ _ (s2 _ _ hl2)) (J2 ..) fun j v x h1 h2=>?_),J2 ..,⟨[],af⟩,aw (s2 _ _ hl1) ho,aw (s2 _ _ hl2) ho,nll,htb.keep (fun _ _ e=>S3 _ _ e) (fun _ _ e=>S3 _ _ e),hto,hbm.keep fun _ _ _ e=>S3 _ _ e⟩⟩
  ·unfold Vbdeab.start
   simp
  ·obtain⟨e,_⟩:=EA h2
   obtain⟨d,h⟩:=at1 j x h1
   rw [e]
   exact⟨d,s3 _ _ (s2 _ _ h)⟩
  ·obtain⟨j,hj,e⟩:=List.getElem_of_mem ht
   obtain⟨e2,hj2⟩:=EA (bH hj)
   rw [←e,e2]
   show j<18446744073709551616
   omega
  ·have hv:v= .non:=List.eq_of_mem_replicate (eR h1)
   have hx:x=none:=List.eq_of_mem_replicate (eR h2)
   rw [hv,hx]
   exact rfl
 refine⟨fun m σ H'=>∃(as':List Addr) (S:State) (pos:Nat) (cs':List (List (List Int))) (outs:List Int) (v:Option V),m=cs'.length∧σ= [some (.ref a),some (.ref b),some (.ref r),some (.ref o),v]∧Wd ⟨o,l2,Pl⟩ T H' b r l a as' S ns pos∧ns.drop pos=PyFlat.put cs'∧(∀c∈cs',PyFlat.okCall PyVbdeab.shape c)∧H' o=some (.lst (outs.map V.int))∧PyVbdeab.answers ns=outs++PyFlat.told (PyFlat.played VbdeabNeutral.step S cs'),⟨cs.length,(ju as Vbdeab.start 0 cs ([]) none rfl rfl W0 eput okc af eans)⟩,?_⟩
 rintro m σ H3
 refine Bg ?_
 rintro as3 S pos cs3 outs v rfl rfl W3 hd3 ok3 ho3 e3
 obtain⟨dr3,hr3⟩:=id W3.rd
 refine cP _ rfl r dr3 _ rfl hr3 rfl ⟨r,(h9 a pos ns rfl ⟨dr3,hr3⟩ (dt W3.sq _ rfl (aX (fun hl=>⟨_,fun _ _ z=>z,?_⟩) (fun hl=>?_))))⟩
 ·have hl':=eG hl
  cases cs3 with
  | nil=>
   exfalso
   have:=cA List.length hd3
   rw [C9] at this
   simp [PyFlat.put] at this
   omega
  | cons c cs4=>
   refine d7 ?_ (Mu (ok3 c fD) cs4)
   rintro p cl xs rfl hsh hput
   obtain⟨q0,q28⟩:=G6 hsh
   obtain⟨pn,rfl⟩:∃pn:Nat,p=(pn:Int):=⟨p.toNat,⋯⟩
   rw [hput] at hd3
   have estep:VbdeabNeutral.step S (((pn:Int)::cl)::xs)=does S (((pn:Int)::cl)::xs):=rfl
   refine bD _ rfl _ rfl (wQ ⟨o,l2,Pl⟩ b r l a as3 S ns (iK pos pn cl xs (PyFlat.put cs4) rfl W3 hd3 hsh ⋯ (fi hsm hln fun H4 q as4 pos4 W4 hd4 hq4 ki4 nf4=>?_)))
   have ho4:=ki4 _ _ ho3
   have noq:o≠q:=nf4 _ _ ho3
   have e4:PyVbdeab.answers ns=(outs++ [((does S (((pn:Int)::cl)::xs)).2.length:Int)]++(does S (((pn:Int)::cl)::xs)).2)++PyFlat.told (PyFlat.played VbdeabNeutral.step (does S (((pn:Int)::cl)::xs)).1 cs4):=by
    rw [e3,PyFlat.played,Lg,estep]
    simp
   have hlen4:=cA List.length e4
   simp only [bZ,List.length_singleton] at hlen4
   refine df _ rfl (.inl ⟨rfl,_,a5.of ho4⟩) (cy _ rfl q _ rfl (.inl (a5.of hq4)) (i5 o _ _ rfl rfl ho4 (by rw [aD];show outs.length<2 ^ 24;omega) ?_))
   refine df _ rfl (.inl ⟨rfl,_,a5.of af⟩) (gP _ rfl o q _ _ rfl rfl af (by rw [ak (Ne.symm noq)];exact hq4) (by rw [bZ,aD,aD];show outs.length+1+(does S (((pn:Int)::cl)::xs)).2.length≤2 ^ 24;omega) ?_)
   refine bJ cs4.length (by rw [d8];omega) (ju as4 _ pos4 cs4 (outs++ [((does S (((pn:Int)::cl)::xs)).2.length:Int)]++(does S (((pn:Int)::cl)::xs)).2) _ rfl rfl ?_ hd4 (fun c hc=>ok3 c (dX _ hc)) ?_ e4)
   ·exact(W4.listAt _).listAt _
   ·rw [af,aD,dB,dB]
    rfl
 ·have hl':=cj hl
  cases cs3 with
  | cons c cs4=>
   exfalso
   refine d7 ?_ (Mu (ok3 c fD) cs4)
   rintro p cl xs rfl hsh hput
   rw [hput,List.drop_eq_nil_of_le hl'] at hd3
   cases hd3
  | nil=>
   refine⟨_,rfl,?_⟩
   rw [e3] at kk
   have:PyFlat.told (PyFlat.played VbdeabNeutral.step S [])= []:=rfl
   rw [this,vU] at kk
   exact kk H3 o ho3
end
end Pf
section
namespace Pf
open PySem PySem.Spec PyProof.Rows L2
structure Rr (K:PySem.W.Frag) (a:Addr) (kfs:List (Int×V)):Prop where
 gd:∀(P:Program) (w:World),GD P w K a kfs
def zZ:List DictEntry→List (Int×V)→Prop
 | [],[]=>True
 | e::es,p::ps=>(∃t,e.key= .int p.1 t)∧e.hash=hashInt p.1∧cZ p.2 e.val∧zZ es ps
 | _,_=>False
def OJ:List DictEntry→List (Int×V)→List (yG×Value)
 | e::es,p::ps=>((Sum.inl p.1:yG),e.val)::OJ es ps
 | _,_=> []
theorem LH:∀{es:List DictEntry} {kfs:List (Int×V)},zZ es kfs→KV (kfs.map fun p=>((Sum.inl p.1:yG),p.2)) (OJ es kfs)
 | [],[],_=> .nil
 | e::es,p::ps,⟨_,_,h3,r⟩=> .cons ⟨rfl,h3⟩ (LH r)
 | [],_::_,h=>h.elim
 | _::_,[],h=>h.elim
theorem D7 {P:Program} {w:World}:∀{es:List DictEntry} {kfs:List (Int×V)},zZ es kfs→Pairs (lY P w) es (OJ es kfs)
 | [],[],_=> .nil
 | e::es,p::ps,⟨⟨t,h1⟩,_,h3,r⟩=> .cons (by rw [h1];show Value.isInt p.1 (.int p.1 t)=true;simp [Value.isInt]) rfl (D7 r)
 | [],_::_,h=>h.elim
 | _::_,[],h=>h.elim
theorem Gb {P:Program} {w:World}:∀{es:List DictEntry} {kfs:List (Int×V)},zZ es kfs→∀e∈es,∃k,(lY P w).is k e.key=true∧e.hash=(lY P w).hash k
 | [],_,_,e,m=>nomatch m
 | e::es,p::ps,⟨⟨t,h1⟩,h2,_,r⟩,x,m=>by
  rcases cH.mp m with rfl | m
  ·exact⟨Sum.inl p.1,by rw [h1];show Value.isInt p.1 (.int p.1 t)=true;simp [Value.isInt],h2⟩
  ·exact Gb r x m
 | _::_,[],h,_,_=>h.elim
theorem Jx:∀{es:List DictEntry} {kfs:List (Int×V)},zZ es kfs→(OJ es kfs).map (·.1)=(kfs.map (·.1)).map (Sum.inl:Int→yG)
 | [],[],_=>rfl
 | e::es,p::ps,⟨_,_,_,r⟩=>by
  show Sum.inl p.1::(OJ es ps).map (·.1)=_
  rw [Jx r]
  rfl
 | [],_::_,h=>h.elim
 | _::_,[],h=>h.elim
theorem OK {es:List DictEntry} {kfs:List (Int×V)} (e:zZ es kfs) (h:(kfs.map (·.1)).Nodup):((OJ es kfs).map (·.1)).Nodup:=by
 rw [Jx e]
 generalize kfs.map (·.1)=z at h
 clear e
 induction z with
 | nil=>exact List.nodup_nil
 | cons a r ih=>
  obtain⟨h1,h2⟩:=uL.mp h
  rw [e9]
  refine uL.mpr ⟨fun m=>?_,ih h2⟩
  refine a4 (fun b hb e=>?_) (lV.mp m)
  cases e
  exact h1 hb
theorem OD {K:PySem.W.Frag} {a:Addr} {kfs:List (Int×V)} {es:Array DictEntry} {ep:Nat} (l:K.lookup a=some ⟨.type "dict",none,.dict es ep,#[]⟩) (he:zZ es.toList kfs) (nd:(kfs.map (·.1)).Nodup) (ne:(a==sysModules)=false):Rr K a kfs:=
 ⟨fun P w=>⟨ne,fun h X=>(cP (OJ es.toList kfs) (LH he) _ es ep (X a _ l) ⟨rfl,rfl,rfl⟩ rfl (fi (fun e m=>Gb he e (by simpa using m)) (D7 he) (OK he nd)))⟩⟩
section
variable {K:PySem.W.Frag} {h:Heap} {mg:Str→Option Value} {x q:Str} {st:Stmt} {ps ats:List Str} {f C a:Addr} {oc kV doc pm cdv ct:Value} {od an:Option Addr} {osl:Array (Option Value)}
def xr {z:Int} {t:Tok} (X:K.In h) (G:h.Ns mainGlobals mg) (e:PySem.W.nsIn K mainGlobals x=some (some (.int z t))):GC mg x (.int z):=⟨_,zO X G e,⟨_,rfl⟩⟩
def PU:List Int→Bool
 | []=>true
 | a::l=> !(l.contains a) && PU l
theorem L8:∀{l:List Int},PU l=true→l.Nodup
 | [],_=>List.nodup_nil
 | a::l,h=>by
  obtain⟨h1,h2⟩:=Jc.mp (show(!(l.contains a) && PU l)=true from h)
  refine uL.mpr ⟨fun m=>?_,L8 h2⟩
  rw [List.contains_iff_mem.mpr m] at h1
  cases h1
def Qs (K:PySem.W.Frag) (C:Addr) (l:List Str):Prop:=∀y∈l,ku K C y
theorem Nv:Qs K C []:=fun _ h=>nomatch h
theorem Mb {y:Str} {l:List Str} (h:PySem.W.findIn K (.ref C) y=some none) (t:Qs K C l):Qs K C (y::l):=fun b m=>(cH.mp m).elim (fun e=>by rw [e];exact h) (t b)
def Nn (X:K.In h) (G:h.Ns mainGlobals mg) (e:PySem.W.nsIn K mainGlobals x=some (some (.ref C))) (pg:PySem.W.plainGet K C Str.empty=true) (hd:PySem.W.hasDictIn K C=true) (po:PySem.W.plainOver K C=true)
  (sa:PySem.W.findIn K (.ref C) "__setattr__"=some (some (.builtin "object.__setattr__"))) (mks:PySem.W.makesIn K C=true) (kc:PySem.W.keepIn K (.ref C)=true) (no:Qs K C ats):Kl K mg x ats:=⟨C,⟨pg,hd,po,sa⟩,zO X G e,no,mks,kc⟩
def dH (X:K.In h) (G:h.Ns mainGlobals mg) (e:PySem.W.nsIn K mainGlobals x=some (some (.ref f))) (lk:K.lookup f=some ⟨oc,od,.func (PySem.W.fnOf x x (qc st) (jB st) (ag st) .none kV doc pm an cdv ct),osl⟩)
  (cd:PySem.W.codeIn K cdv x=true) (kp:PySem.W.keepIn K (.ref f)=true) (ba:∀us:List Value,us.length=ps.length→bindArgs (PySem.W.fnOf x x (qc st) (jB st) (ag st) .none kV doc pm an cdv ct) ⟨us,[]⟩=pure (ps.zip us)):Df K mg x st ps:=
 ⟨f,_,LK lk cd kp,ba,zO X G e⟩
def sU {c:Kl K mg x ats} {m:Str} (e:PySem.W.findIn K (.ref c.C) m=some (some (.ref f))) (i:PySem.W.isFn K (.ref f)=true) (lk:K.lookup f=some ⟨oc,od,.func (PySem.W.fnOf m q (qc st) (jB st) (ag st) .none kV doc pm an cdv ct),osl⟩)
  (cd:PySem.W.codeIn K cdv q=true) (kp:PySem.W.keepIn K (.ref f)=true) (ba:∀us:List Value,us.length=ps.length→bindArgs (PySem.W.fnOf m q (qc st) (jB st) (ag st) .none kV doc pm an cdv ct) ⟨us,[]⟩=pure (ps.zip us)):Me K c.C m q st ps:=
 ⟨f,_,LK lk cd kp,ba,⟨e,i,kp⟩,c.cl⟩
def Nj {kfs:List (Int×V)} {es:Array DictEntry} {ep:Nat} (X:K.In h) (G:h.Ns mainGlobals mg) (e:PySem.W.nsIn K mainGlobals x=some (some (.ref a))) (l:K.lookup a=some ⟨.type "dict",none,.dict es ep,#[]⟩) (he:zZ es.toList kfs) (nd:PU (kfs.map (·.1))=true) (ne:(a==sysModules)=false):Ln K mg x kfs:=
 ⟨a,zO X G e,(OD l he (L8 nd) ne).gd,rfl⟩
end
theorem Lw {ns:List Int} (h:PyVbdeab.answers_asked ns=true):∃cs,PyFlat.calls PyVbdeab.shape ns.length ns=some cs∧(PyVbdeab.answers ns).length≤10000000:=by
 unfold PyVbdeab.answers_asked at h
 cases e:PyFlat.calls PyVbdeab.shape ns.length ns with
 | none=>rw [e] at h;cases h
 | some cs=>
  rw [e] at h
  simp only [yx] at h
  exact⟨cs,rfl,bn h.2⟩
theorem O1 {K:PySem.W.Frag} {H0 H:Hp} {a:Addr} {ns:List Int} (hx:∀b u,H0 b=some u→H b=some u) (hO:FW H0) (h:a5 K H0 a (ns.map V.int)):z4 K H a ns:=by
 rcases h with(h | ⟨o,h⟩) | h
 ·rcases hO a with z | ⟨o,u,z⟩
  ·rw [z] at h;cases h
  ·rw [z] at h;cases h
 ·exact .inl ⟨o,hx _ _ h⟩
 ·exact .inr fun _=> .inr h
theorem MC {a:PySem.W.Codec.denoteAll PySem.Challenge.fa_toldchance_s01_answers} (h:PySem.W.Codec.withinAll PySem.Challenge.fa_toldchance_s01_answers a=true):j7 a.1∧a.1.length≤7500:=by
 have h1:(PySem.W.Codec.inLen 0 7500 a.1 && a.1.all (PySem.W.Codec.inInt (Int.negSucc 99999999999999999999999999999999999999999) (Int.ofNat 100000000000000000000000000000000000000000)))=true:=(Jc.mp (show(_ && _)=true from h)).1
 obtain⟨h2,h3⟩:=Jc.mp h1
 refine⟨fun x hx=>?_,?_⟩
 ·have h4:=Az.mp h3 x hx
  unfold PySem.W.Codec.inInt at h4
  obtain⟨h5,h6⟩:=Jc.mp h4
  have h7: -100000000000000000000000000000000000000000≤x:=bn h5
  have h8:x≤100000000000000000000000000000000000000000:=bn h6
  unfold Sz
  have e:(2:Nat) ^ 140=1393796574908163946345982392040522594123776:=by decide
  rw [e]
  omega
 ·unfold PySem.W.Codec.inLen PySem.W.Codec.inNat at h2
  exact bn (Jc.mp h2).2
theorem NW {K:PySem.W.Frag} {h:Heap} {mg:Str→Option Value} {Goal:Prop} (_:K.In h) (T:Tx K mg) (main:Tx K mg→Goal):Goal:=main T
theorem Nk {q:Program} {loose:List Str} {mean:ExcName→Option Value} {mg mb:Str→Option Value} {h:Heap} {K:PySem.W.Frag} {d:DefRec} {f c Pl bm:Addr} {oc oc2:Value} {od od2:Option Addr} {osl osl2:Array (Option Value)} {fd:FuncData} {vs:Array Value}
  (T:Tx K mg) (TT:Top q loose mean mg mb h) (X:K.In h) (hrec:(recsOf q).find? (fun e=>e.name==("all_lowest":Str))=some d)
  (hf:PySem.W.nsIn K mainGlobals "all_lowest"=some (some (.ref f))) (lf:K.lookup f=some ⟨oc,od,.func fd,osl⟩) (hc:fd.code= .ref c) (lc:K.lookup c=some ⟨oc2,od2,.fields vs,osl2⟩) (hv:(vs[11]?:Option Value)=some (.ref Pl))
  (kP:K.lookup Pl=none) (hb:PySem.W.nsIn K mainGlobals "__builtins__"=some (some (.ref bm))) (kb:K.lookup bm=none):
  ∃ob:Obj,PySem.W.CodeHd h c Pl∧h.get? Pl=some (PySem.W.tabObj #[])∧K.lookup Pl=none∧h.get? bm=some ob∧ob.data= .plain∧K.lookup bm=none∧Jg T Pl∧
   ∀H:Hp,H bm=some (.frz ob (.ext fun _=>True))→Dp K mg Pl H:=by
 have ht:PySem.W.tabIn K "all_lowest"=some (c,Pl):=by
  unfold PySem.W.tabIn
  simp only [hf,lf,hc,lc,hv]
 obtain⟨hC,hP⟩:=PySem.W.tab_of TT X hrec ht
 refine Bf (fun bm' ob=>?_) TT.bmain
 refine rA fun b1 b2 b3 b4 b5 b6=>?_
 have eb:bm'=bm:=by
  have z:=b1.symm.trans (zO X TT.g hb)
  injection z with z
  injection z
 subst eb
 have ef:f=T.dM.f:=by
  have z:=(zO X TT.g hf).symm.trans T.dM.mgx
  injection z with z
  injection z
 refine lC (fun oc3 od3 kV doc pm an=>?_) T.dM.F.ex
 refine d7 fun cdv ct osl3 e1 lk hcd=>?_
 have efd:T.dM.fd=fd:=by
  rw [ef,lk] at lf
  have z:Data.func T.dM.fd=Data.func fd:=cA Obj.data (bG lf)
  injection z
 refine bJ ob hC (b8 hP kP b3 (b8 b6 kb ⟨c,by rw [efd];exact hc,fun h' X'=>?_⟩ fun H hH=> .inr ⟨bm',(b8 b1 b2 (fun z=>?_) (kQ (fun z=>?_) ob (b8 b4 b5 b6 hH)))⟩))
 ·refine lC (fun o vs' file tf flags tg=>?_) hC
  refine tq fun inF text tt g1 r=>?_
  have z:=X _ _ lc
  rw [g1] at z
  refine wQ o vs' file tf flags tg inF text (bJ tt ?_ r)
  rw [bG z]
  exact X' _ _ lc
 ·refine d7 (fun o es ep g1 g2 _=>?_) TT.g
  rw [←z,b3] at g1
  cases g1
  rw [b6] at g2
  cases g2
 ·rw [←z,b3] at hP
  rw [bG hP] at b6
  cases b6
end Pf
end
end
open PySem PySem.W PyProof.Rows
set_option maxRecDepth 100000 in
set_option maxHeartbeats 0 in
theorem PySem.Challenge.cw_toldchance_s01_answers_holds : PySem.Challenge.rw_toldchance_s01_answers.Holds := by
 w_on
 refine hdTop ?_
 k_fillS
 refine L2.Pd (r:=PySem.Challenge.rw_toldchance_s01_answers) (k:=14) (CX:=L2.Bi) (ps:= ["calls"]) (by decide+kernel) rfl rfl ⟨rfl,by decide,by decide⟩ (fun w h Y=>PySem.W.kIn_of Y) ?F (fun _ _ _ _ z=>z)
 case F=>
  intro w mean mg mb fa h TT Y KX hmg
  have G:=TT.g
  refine' Pf.NW (mg:=mg) KX ?T ?main
  case T=>
   refine' ⟨Pf.xr KX G ?_,
   Pf.xr KX G ?_,
   Pf.xr KX G ?_,
   Pf.xr KX G ?_,
   Pf.xr KX G ?_,
   Pf.xr KX G ?_,
   Pf.xr KX G ?_,
   Pf.xr KX G ?_,
   Pf.xr KX G ?_,
   Pf.xr KX G ?_,
   Pf.xr KX G ?_,
   Pf.xr KX G ?_,
   Pf.xr KX G ?_,
   Pf.xr KX G ?_,
   Pf.xr KX G ?_,
   Pf.xr KX G ?_,
   Pf.xr KX G ?_,
   Pf.xr KX G ?_,
   Pf.xr KX G ?_,
   Pf.xr KX G ?_,
   Pf.xr KX G ?_,
   Pf.xr KX G ?_,
   Pf.xr KX G ?_,
   Pf.xr KX G ?_,
   Pf.xr KX G ?_,
   Pf.xr KX G ?_,
   Pf.xr KX G ?_,
   Pf.xr KX G ?_,
   Pf.xr KX G ?_,
   PySem.W.mg_none_of KX G ?_,
   PySem.W.mg_none_of KX G ?_,
   PySem.W.mg_none_of KX G ?_,
   PySem.W.mg_none_of KX G ?_,
   PySem.W.mg_none_of KX G ?_,
   PySem.W.mg_none_of KX G ?_,
   PySem.W.mg_none_of KX G ?_,
   PySem.W.mg_none_of KX G ?_,
   PySem.W.mg_none_of KX G ?_,
   PySem.W.mg_none_of KX G ?_,
   PySem.W.mg_none_of KX G ?_,
   Pf.Nn KX G ?_ ?_ ?_ ?_ ?_ ?_ ?_ ?_,
   Pf.Nn KX G ?_ ?_ ?_ ?_ ?_ ?_ ?_ ?_,
   Pf.Nn KX G ?_ ?_ ?_ ?_ ?_ ?_ ?_ ?_,
   Pf.Nn KX G ?_ ?_ ?_ ?_ ?_ ?_ ?_ ?_,
   Pf.Nn KX G ?_ ?_ ?_ ?_ ?_ ?_ ?_ ?_,
   Pf.Nn KX G ?_ ?_ ?_ ?_ ?_ ?_ ?_ ?_,
   Pf.Nn KX G ?_ ?_ ?_ ?_ ?_ ?_ ?_ ?_,
   Pf.Nn KX G ?_ ?_ ?_ ?_ ?_ ?_ ?_ ?_,
   Pf.sU ?_ ?_ ?_ ?_ ?_ ?_,
   Pf.sU ?_ ?_ ?_ ?_ ?_ ?_,
   Pf.sU ?_ ?_ ?_ ?_ ?_ ?_,
   Pf.dH KX G ?_ ?_ ?_ ?_ ?_,
   Pf.dH KX G ?_ ?_ ?_ ?_ ?_,
   Pf.dH KX G ?_ ?_ ?_ ?_ ?_,
   Pf.dH KX G ?_ ?_ ?_ ?_ ?_,
   Pf.dH KX G ?_ ?_ ?_ ?_ ?_,
   Pf.dH KX G ?_ ?_ ?_ ?_ ?_,
   Pf.dH KX G ?_ ?_ ?_ ?_ ?_,
   Pf.dH KX G ?_ ?_ ?_ ?_ ?_,
   Pf.dH KX G ?_ ?_ ?_ ?_ ?_,
   Pf.dH KX G ?_ ?_ ?_ ?_ ?_,
   Pf.sU ?_ ?_ ?_ ?_ ?_ ?_,
   Pf.sU ?_ ?_ ?_ ?_ ?_ ?_,
   Pf.sU ?_ ?_ ?_ ?_ ?_ ?_,
   Pf.sU ?_ ?_ ?_ ?_ ?_ ?_,
   Pf.dH KX G ?_ ?_ ?_ ?_ ?_,
   Pf.dH KX G ?_ ?_ ?_ ?_ ?_,
   Pf.dH KX G ?_ ?_ ?_ ?_ ?_,
   Pf.dH KX G ?_ ?_ ?_ ?_ ?_,
   Pf.dH KX G ?_ ?_ ?_ ?_ ?_,
   Pf.dH KX G ?_ ?_ ?_ ?_ ?_,
   Pf.dH KX G ?_ ?_ ?_ ?_ ?_,
   Pf.dH KX G ?_ ?_ ?_ ?_ ?_,
   Pf.dH KX G ?_ ?_ ?_ ?_ ?_,
   Pf.dH KX G ?_ ?_ ?_ ?_ ?_,
   Pf.dH KX G ?_ ?_ ?_ ?_ ?_,
   Pf.dH KX G ?_ ?_ ?_ ?_ ?_,
   Pf.sU ?_ ?_ ?_ ?_ ?_ ?_,
   Pf.sU ?_ ?_ ?_ ?_ ?_ ?_,
   Pf.sU ?_ ?_ ?_ ?_ ?_ ?_,
   Pf.sU ?_ ?_ ?_ ?_ ?_ ?_,
   Pf.dH KX G ?_ ?_ ?_ ?_ ?_,
   Pf.dH KX G ?_ ?_ ?_ ?_ ?_,
   Pf.dH KX G ?_ ?_ ?_ ?_ ?_,
   Pf.dH KX G ?_ ?_ ?_ ?_ ?_,
   Pf.dH KX G ?_ ?_ ?_ ?_ ?_,
   Pf.dH KX G ?_ ?_ ?_ ?_ ?_,
   Pf.sU ?_ ?_ ?_ ?_ ?_ ?_,
   Pf.sU ?_ ?_ ?_ ?_ ?_ ?_,
   Pf.sU ?_ ?_ ?_ ?_ ?_ ?_,
   Pf.sU ?_ ?_ ?_ ?_ ?_ ?_,
   Pf.sU ?_ ?_ ?_ ?_ ?_ ?_,
   Pf.dH KX G ?_ ?_ ?_ ?_ ?_,
   Pf.dH KX G ?_ ?_ ?_ ?_ ?_,
   Pf.dH KX G ?_ ?_ ?_ ?_ ?_,
   Pf.dH KX G ?_ ?_ ?_ ?_ ?_,
   Pf.dH KX G ?_ ?_ ?_ ?_ ?_,
   Pf.dH KX G ?_ ?_ ?_ ?_ ?_,
   Pf.dH KX G ?_ ?_ ?_ ?_ ?_,
   Pf.dH KX G ?_ ?_ ?_ ?_ ?_,
   Pf.dH KX G ?_ ?_ ?_ ?_ ?_,
   Pf.sU ?_ ?_ ?_ ?_ ?_ ?_,
   Pf.sU ?_ ?_ ?_ ?_ ?_ ?_,
   Pf.sU ?_ ?_ ?_ ?_ ?_ ?_,
   Pf.sU ?_ ?_ ?_ ?_ ?_ ?_,
   Pf.sU ?_ ?_ ?_ ?_ ?_ ?_,
   Pf.sU ?_ ?_ ?_ ?_ ?_ ?_,
   Pf.sU ?_ ?_ ?_ ?_ ?_ ?_,
   Pf.sU ?_ ?_ ?_ ?_ ?_ ?_,
   Pf.sU ?_ ?_ ?_ ?_ ?_ ?_,
   Pf.sU ?_ ?_ ?_ ?_ ?_ ?_,
   Pf.sU ?_ ?_ ?_ ?_ ?_ ?_,
   Pf.sU ?_ ?_ ?_ ?_ ?_ ?_,
   Pf.sU ?_ ?_ ?_ ?_ ?_ ?_,
   Pf.sU ?_ ?_ ?_ ?_ ?_ ?_,
   Pf.sU ?_ ?_ ?_ ?_ ?_ ?_,
   Pf.sU ?_ ?_ ?_ ?_ ?_ ?_,
   Pf.dH KX G ?_ ?_ ?_ ?_ ?_,
   Pf.dH KX G ?_ ?_ ?_ ?_ ?_,
   Pf.dH KX G ?_ ?_ ?_ ?_ ?_,
   Pf.dH KX G ?_ ?_ ?_ ?_ ?_,
   Pf.dH KX G ?_ ?_ ?_ ?_ ?_,
   Pf.dH KX G ?_ ?_ ?_ ?_ ?_,
   Pf.dH KX G ?_ ?_ ?_ ?_ ?_,
   Pf.dH KX G ?_ ?_ ?_ ?_ ?_,
   Pf.dH KX G ?_ ?_ ?_ ?_ ?_,
   Pf.dH KX G ?_ ?_ ?_ ?_ ?_,
   Pf.dH KX G ?_ ?_ ?_ ?_ ?_,
   Pf.dH KX G ?_ ?_ ?_ ?_ ?_,
   Pf.dH KX G ?_ ?_ ?_ ?_ ?_,
   Pf.dH KX G ?_ ?_ ?_ ?_ ?_,
   Pf.dH KX G ?_ ?_ ?_ ?_ ?_,
   Pf.dH KX G ?_ ?_ ?_ ?_ ?_,
   Pf.dH KX G ?_ ?_ ?_ ?_ ?_,
   Pf.dH KX G ?_ ?_ ?_ ?_ ?_,
   Pf.dH KX G ?_ ?_ ?_ ?_ ?_,
   Pf.dH KX G ?_ ?_ ?_ ?_ ?_,
   Pf.dH KX G ?_ ?_ ?_ ?_ ?_,
   Pf.dH KX G ?_ ?_ ?_ ?_ ?_,
   Pf.dH KX G ?_ ?_ ?_ ?_ ?_,
   Pf.dH KX G ?_ ?_ ?_ ?_ ?_,
   Pf.dH KX G ?_ ?_ ?_ ?_ ?_,
   Pf.dH KX G ?_ ?_ ?_ ?_ ?_,
   Pf.dH KX G ?_ ?_ ?_ ?_ ?_,
   Pf.dH KX G ?_ ?_ ?_ ?_ ?_,
   Pf.dH KX G ?_ ?_ ?_ ?_ ?_,
   Pf.dH KX G ?_ ?_ ?_ ?_ ?_,
   Pf.dH KX G ?_ ?_ ?_ ?_ ?_,
   Pf.dH KX G ?_ ?_ ?_ ?_ ?_,
   Pf.dH KX G ?_ ?_ ?_ ?_ ?_,
   Pf.dH KX G ?_ ?_ ?_ ?_ ?_,
   Pf.dH KX G ?_ ?_ ?_ ?_ ?_,
   Pf.dH KX G ?_ ?_ ?_ ?_ ?_,
   Pf.dH KX G ?_ ?_ ?_ ?_ ?_,
   Pf.sU ?_ ?_ ?_ ?_ ?_ ?_,
   Pf.sU ?_ ?_ ?_ ?_ ?_ ?_,
   Pf.sU ?_ ?_ ?_ ?_ ?_ ?_,
   Pf.sU ?_ ?_ ?_ ?_ ?_ ?_,
   Pf.dH KX G ?_ ?_ ?_ ?_ ?_,
   Pf.dH KX G ?_ ?_ ?_ ?_ ?_,
   Pf.dH KX G ?_ ?_ ?_ ?_ ?_,
   Pf.dH KX G ?_ ?_ ?_ ?_ ?_,
   Pf.dH KX G ?_ ?_ ?_ ?_ ?_,
   Pf.dH KX G ?_ ?_ ?_ ?_ ?_,
   Pf.dH KX G ?_ ?_ ?_ ?_ ?_,
   Pf.dH KX G ?_ ?_ ?_ ?_ ?_,
   Pf.dH KX G ?_ ?_ ?_ ?_ ?_,
   Pf.dH KX G ?_ ?_ ?_ ?_ ?_,
   Pf.dH KX G ?_ ?_ ?_ ?_ ?_,
   Pf.dH KX G ?_ ?_ ?_ ?_ ?_,
   Pf.dH KX G ?_ ?_ ?_ ?_ ?_,
   Pf.dH KX G ?_ ?_ ?_ ?_ ?_,
   Pf.dH KX G ?_ ?_ ?_ ?_ ?_,
   Pf.dH KX G ?_ ?_ ?_ ?_ ?_,
   Pf.dH KX G ?_ ?_ ?_ ?_ ?_,
   Pf.dH KX G ?_ ?_ ?_ ?_ ?_,
   Pf.dH KX G ?_ ?_ ?_ ?_ ?_,
   Pf.dH KX G ?_ ?_ ?_ ?_ ?_,
   Pf.dH KX G ?_ ?_ ?_ ?_ ?_,
   Pf.dH KX G ?_ ?_ ?_ ?_ ?_,
   Pf.dH KX G ?_ ?_ ?_ ?_ ?_,
   Pf.dH KX G ?_ ?_ ?_ ?_ ?_,
   Pf.dH KX G ?_ ?_ ?_ ?_ ?_,
   Pf.dH KX G ?_ ?_ ?_ ?_ ?_,
   Pf.dH KX G ?_ ?_ ?_ ?_ ?_,
   Pf.dH KX G ?_ ?_ ?_ ?_ ?_,
   Pf.dH KX G ?_ ?_ ?_ ?_ ?_,
   Pf.dH KX G ?_ ?_ ?_ ?_ ?_,
   Pf.dH KX G ?_ ?_ ?_ ?_ ?_,
   Pf.dH KX G ?_ ?_ ?_ ?_ ?_,
   Pf.dH KX G ?_ ?_ ?_ ?_ ?_,
   Pf.sU ?_ ?_ ?_ ?_ ?_ ?_,
   Pf.dH KX G ?_ ?_ ?_ ?_ ?_,
   Pf.dH KX G ?_ ?_ ?_ ?_ ?_,
   Pf.Nj KX G ?_ ?_ ?_ ?_ ?_,
   Pf.Nj KX G ?_ ?_ ?_ ?_ ?_,
   Pf.Nj KX G ?_ ?_ ?_ ?_ ?_,
   Pf.Nj KX G ?_ ?_ ?_ ?_ ?_,
   Pf.Nj KX G ?_ ?_ ?_ ?_ ?_,
   Pf.Nj KX G ?_ ?_ ?_ ?_ ?_,
   Pf.Nj KX G ?_ ?_ ?_ ?_ ?_,
   Pf.Nj KX G ?_ ?_ ?_ ?_ ?_,
   Pf.Nj KX G ?_ ?_ ?_ ?_ ?_⟩
   all_goals first
    | k_is
    | (dsimp only [Pf.Nn];k_is)
    | exact Pf.Pj fun _=>rfl | exact Pf.Pk fun _ _=>rfl | exact Pf.QM fun _ _ _=>rfl | exact Pf.QN fun _ _ _ _=>rfl | exact Pf.QO fun _ _ _ _ _=>rfl | exact Pf.N9 rfl
    | (show Pf.PU _=true;rfl)
    | (show(_==_)=false;rfl)
    | ((repeat first | exact Pf.Nv | refine Pf.Mb (by k_is) ?_);done)
    | ((repeat first | exact trivial | refine⟨⟨_,rfl⟩,rfl,⟨_,rfl⟩,?_⟩ | refine⟨⟨_,rfl⟩,rfl,rfl,?_⟩);done)
    | skip
  case main=>
   intro T
   have e:fa=T.mi.f:=by
    have z:=hmg.symm.trans T.mi.mgx
    injection z with z
    injection z
   subst e
   refine' Exists.elim (Pf.Nk T TT KX ?y0 ?y1 ?y2 ?y3 ?y4 ?y5 ?y6 ?y7 ?y8) ?go
   (case y0=>rfl)
   (case y1=>k_is)
   (case y2=>k_is)
   (case y3=>rfl)
   (case y4=>k_is)
   (case y5=>rfl)
   (case y6=>kernel_rfl)
   (case y7=>k_is)
   (case y8=>kernel_rfl)
   case go=>
    rintro ob ⟨t1,t2,t3,t4,t5,t6,hto,hbm⟩
    refine⟨T.mi.fd,Pf.yi T,_,_,_,ob,T.mi.bt,fun base _ _=>Pf.E7 T,t1,t2,t3,t4,t5,t6,fun H0 H xs a hx hO hPl hB hwi hask hD=> ?_⟩
    cases hD with
    | cons h1 h2=>
     cases h2
     cases h1 with
     | lst hs ha=>
      have e:=L2.Ju a.1 _ ha
      subst e
      obtain⟨cs,hcs,hlen⟩:=Pf.Lw (ns:=a.1) hask
      obtain⟨hsm,hln⟩:=Pf.MC hwi
      exact⟨_,_,a.1,cs,rfl,Pf.O1 hx hO hs,hto,hbm H hB,.inl hPl,hcs,hsm,hln,hlen,fun H' p hp=> .lst (L2.a5.of hp) (L2.Jq _)⟩
