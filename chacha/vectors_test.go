package chacha

import (
	"bytes"
	"crypto/sha256"
	"encoding/hex"
	"testing"

	"fenland/api"
)

// The bytes in this file are those of RFC 8439 and of two other implementations: of OpenSSL, and, for derived keys, of
// CPython's hashlib.

// message returns n bytes that have another period than blocks.
func message(n int) []byte {
	b := make([]byte, n)
	for i := range b {
		b[i] = byte(i % 251)
	}
	return b
}

// rising is the key of most examples of RFC 8439.
func rising() api.Key {
	var key api.Key
	for i := range key {
		key[i] = byte(i)
	}
	return key
}

// sample returns a key and a nonce whose bytes are different and not zero.
func sample() (api.Key, [12]byte) {
	var key api.Key
	for i := range key {
		key[i] = byte(255 - i)
	}
	var nonce [12]byte
	for i := range nonce {
		nonce[i] = byte(0x40 + 7*i)
	}
	return key, nonce
}

func unhex(t *testing.T, s string) []byte {
	t.Helper()
	b, err := hex.DecodeString(s)
	if err != nil {
		t.Fatal(err)
	}
	return b
}

func same(t *testing.T, name string, b []byte, want string) {
	t.Helper()
	if hex.EncodeToString(b) != want {
		t.Errorf("%s: %x; want %s", name, b, want)
	}
}

func sameSum(t *testing.T, name string, b []byte, want string) {
	t.Helper()
	d := sha256.Sum256(b)
	same(t, "the digest of "+name, d[:], want)
}

// P3.1: the section 'Examples'.
func TestExamples(t *testing.T) {
	b := Block(api.Key{}, [12]byte{}, 0)
	same(t, "the first four bytes", b[:4], "76b8e0ad")
	key, nonce := sample()
	for _, none := range [][]byte{nil, {}, message(9)[:0]} {
		if c := Xor(key, nonce, none); len(c) != 0 {
			t.Errorf("Xor of no bytes: %x", c)
		}
		if c := Xor(api.Key{}, [12]byte{}, none); len(c) != 0 {
			t.Errorf("Xor of no bytes with zero bytes: %x", c)
		}
	}
}

const (
	zeroKey     = "0000000000000000000000000000000000000000000000000000000000000000"
	zeroNonce   = "000000000000000000000000"
	sampleKey   = "fffefdfcfbfaf9f8f7f6f5f4f3f2f1f0efeeedecebeae9e8e7e6e5e4e3e2e1e0"
	sampleNonce = "40474e555c636a71787f868d"
)

var blocks = []struct {
	key, nonce string
	n          uint32
	want       string
}{
	// RFC 8439, A.1
	{zeroKey, zeroNonce, 0, "76b8e0ada0f13d90405d6ae55386bd28bdd219b8a08ded1aa836efcc8b770dc7da41597c5157488d7724e03fb8d84a376a43b8f41518a11cc387b669b2ee6586"},
	{zeroKey, zeroNonce, 1, "9f07e7be5551387a98ba977c732d080dcb0f29a048e3656912c6533e32ee7aed29b721769ce64e43d57133b074d839d531ed1f28510afb45ace10a1f4b794d6f"},
	{"0000000000000000000000000000000000000000000000000000000000000001", zeroNonce, 1, "3aeb5224ecf849929b9d828db1ced4dd832025e8018b8160b82284f3c949aa5a8eca00bbb4a73bdad192b5c42f73f2fd4e273644c8b36125a64addeb006c13a0"},
	{"00ff000000000000000000000000000000000000000000000000000000000000", zeroNonce, 2, "72d54dfbf12ec44b362692df94137f328fea8da73990265ec1bbbea1ae9af0ca13b25aa26cb4a648cb9b9d1be65b2c0924a66c54d545ec1b7374f4872e99f096"},
	{zeroKey, "000000000000000000000002", 0, "c2c64d378cd536374ae204b9ef933fcd1a8b2288b3dfa49672ab765b54ee27c78a970e0e955c14f3a88e741b97c286f75f8fc299e8148362fa198a39531bed6d"},
	// RFC 8439, 2.3.2
	{"000102030405060708090a0b0c0d0e0f101112131415161718191a1b1c1d1e1f", "000000090000004a00000000", 1, "10f1e7e4d13b5915500fdd1fa32071c4c7d1f4c733c068030422aa9ac3d46c4ed2826446079faa0914c2d705d98b02a2b5129cd1de164eb9cbd083e8a2503c4e"},
	// OpenSSL
	{sampleKey, sampleNonce, 0, "94a88b7bfc647d4a7555c52081f84ff7e0b7c76e4f7954d24243bc7df43417acca2b8e347796819d675842f92ea90457aa5dbf86fd33046d66e922d5dc2c8126"},
	{sampleKey, sampleNonce, 1, "1bee1ff30dcb61693211732dda3a9307b3fd857b53a748c5d168e7c9584e9f2b89494bb9cdfd954d35dda0daff06153f875a560806641cb95fc99952dee08629"},
	{sampleKey, sampleNonce, 255, "226dab8b943d7a4e614023d949b6fa1c0e4bc3c0452e255664c693ec1d91c8331adbd0b3d3471cc465d091b3e98e9f63702c5901fe4c6b1ca617275ec338ba84"},
	{sampleKey, sampleNonce, 256, "9734c974a5d86886f94237a3fc77a75ce0e8a1fe1795d77224a56ae018b333cd680825a89ad3d12b51e029af9d1f64f60f741472e2ad8da71e8da637171ad3b8"},
	{sampleKey, sampleNonce, 65536, "ce5136ced7591587fd28957afa78b18b1a449c2b0e463f2efe63adeb26ba790aaada2c461842048a516f87a0ddea554d52f26e328771858d2dc2b51729afab9d"},
	{sampleKey, sampleNonce, 0x01020304, "54cf9224de385b88256b215925cd4c3cb0d22f9a4cc282d7de1053c68896245feaa0ff9e3817294f5de9ce8d2a51ca263e5da190eaa4d0c3ed8b09d63028ded4"},
	{sampleKey, sampleNonce, 1 << 31, "29063feb9e626a585771c9254f1f808a8766f804bfd8e4ab86ebb9fa4661cc101b998fd4200a0aac8499fc8587a167ed4dc70d1187534ee7c7d6874e6e47eba2"},
	{sampleKey, sampleNonce, 1<<32 - 1, "ef368262cda8073eb499dd5e78625a42a7af2cc0046cd3450a832e81c07f1ac57828e9889647830ad8d89a4b650b0361f4eeae204fc1ab5b9a031441ca66117e"},
	{"ffffffffffffffffffffffffffffffffffffffffffffffffffffffffffffffff", "ffffffffffffffffffffffff", 1<<32 - 1, "d72b21cfa4b6b0c41d61f62b8a11159c6a4f63bc56c2035796c7ad37811121bbec56d54a530f3a933dd28a50feb23bfaf64f405be985f3718bdf4683e96be749"},
}

// P3.1: C1, with the counters 0, 1, 2^32 - 1 and others.
func TestPublishedBlocks(t *testing.T) {
	for _, x := range blocks {
		b := Block(api.Key(unhex(t, x.key)), [12]byte(unhex(t, x.nonce)), x.n)
		same(t, "Block with the key "+x.key, b[:], x.want)
	}
}

// P3.1: the quarter round, by the example of RFC 8439, 2.1.1.
func TestPublishedQuarterRound(t *testing.T) {
	a, b, c, d := uint32(0x11111111), uint32(0x01020304), uint32(0x9b8d6f43), uint32(0x01234567)
	quarterRound(&a, &b, &c, &d)
	if a != 0xea2a92f4 || b != 0xcb1cf8ce || c != 0x4581472e || d != 0x5881c4bb {
		t.Errorf("quarter round: %x, %x, %x, %x", a, b, c, d)
	}
}

// P3.1: the state before the initial state is added, by the example of RFC 8439, 2.3.2.
func TestPublishedRounds(t *testing.T) {
	s := initial(rising(), [12]byte{3: 9, 7: 0x4a}, 1)
	if s != [16]uint32{
		0x61707865, 0x3320646e, 0x79622d32, 0x6b206574, 0x03020100, 0x07060504, 0x0b0a0908, 0x0f0e0d0c,
		0x13121110, 0x17161514, 0x1b1a1918, 0x1f1e1d1c, 0x00000001, 0x09000000, 0x4a000000, 0x00000000,
	} {
		t.Errorf("the initial state: %x", s)
	}
	for range 10 {
		doubleRound(&s)
	}
	if s != [16]uint32{
		0x837778ab, 0xe238d763, 0xa67ae21e, 0x5950bb2f, 0xc4f2d0c7, 0xfc62bb2f, 0x8fa018fc, 0x3f5ec7b7,
		0x335271c2, 0xf29489f3, 0xeabda8fc, 0x82e46ebd, 0xd19c12b4, 0xb04e16de, 0x9e83d0cb, 0x4e3c50a2,
	} {
		t.Errorf("after 10 double rounds: %x", s)
	}
}

// P3.1: C2, by the example of RFC 8439, 2.4.2, whose key stream begins with the counter 1.
func TestPublishedMessage(t *testing.T) {
	text := "Ladies and Gentlemen of the class of '99: If I could offer you only one tip for the future, sunscreen would be it."
	sealed := Xor(rising(), [12]byte{7: 0x4a}, append(make([]byte, 64), text...))
	same(t, "the message", sealed[64:], "6e2e359a2568f98041ba0728dd0d6981e97e7aec1d4360c20a27afccfd9fae0bf91b65c5524733ab8f593dabcd62b3571639d624e65152ab8f530c359f0861d807ca0dbf500d6a6156a38e088a22b65e52bc514d16ccf806818ce91ab77937365af90bbf74a35be6b40b8eedf2785e42874d")
}

// sealed is Xor of message with sample.
const sealed = "94a98978f8617b4d7d5ccf2b8df541f8f0a6d57d5b6c42c55a5aa666e82909b3ea0aac1753b3a7ba4f7168d202842a789a6c8db5c906325a5ed018eee011bf19" +
	"5baf5db0498e272e7a5839669677dd48e3acd72807f21e928931bd920413c174e92829daa998f32a5db4cab1936b7b50f72b247b72116ace27b0e329a29df856" +
	"3e21"

// P3.1: C2, for every number of bytes up to two blocks and a part of a third one.
func TestPublishedSeals(t *testing.T) {
	key, nonce := sample()
	for n := range len(sealed)/2 + 1 {
		same(t, "Xor", Xor(key, nonce, message(n)), sealed[:2*n])
	}
	var all []byte
	for n := range 1001 {
		all = append(all, Xor(key, nonce, message(n))...)
	}
	sameSum(t, "all results", all, "d9872ed07701166cc1420da647ee4236d724d593449839b42f65091d2af1c1ab")
}

// P3.1: C2, for objects of the greatest size, and for counters of more than one and two bytes.
func TestPublishedLongSeals(t *testing.T) {
	key, nonce := sample()
	for _, x := range []struct {
		n    int
		want string
	}{
		{4096, "b160539f38fd664fd77bf5c7afa2997566b35e3c7f41fe3841727b56dc962108"},
		{16384, "fea5549b0fff45f6d1fa9691c3e29c99a0d0547027e232eb7be7849cd0eb86e0"},
		{16385, "858bf0b705d2ea67cad5b646efd73e326d58fb575d759073a3390ef437a8530a"},
		{api.MaxObject - 1, "0465726e4cdb0ba8af3c8fc69516bb8794d42a7b0a41345481c96fadee12e2da"},
		{api.MaxObject, "41982433f33fb30986d2a5a28932e1d267ea3ea7540a6294900b778ec12e6b44"},
		{api.MaxObject + 1, "16c8e930b651ba530d495f988e7ef3fc2a1662503c179234dd8db70885a1eae7"},
		{65536*64 + 65, "1e5d947efc01014705554fc59c02e7f076bb9cb7cbafb4285566b239a83296aa"},
	} {
		sameSum(t, "Xor", Xor(key, nonce, message(x.n)), x.want)
	}
}

// P3.1: C2, after 2^32 - 1 the counter continues with 0. No byte string within the limits reaches it from the counter 0.
func TestPublishedWrap(t *testing.T) {
	key, nonce := sample()
	stream := combine(initial(key, nonce, 1<<32-2), make([]byte, 256))
	sameSum(t, "the key stream", stream, "b1060a283392e196d05ed1628e13acc39d08270680c794b21dc8297afdbc5c6b")
}

// P3.1: C3.
func TestPublishedKeys(t *testing.T) {
	key, _ := sample()
	for _, x := range []struct{ label, want string }{
		{"", "865ed9e0d6a8e5d7fb3602f4213101a7bbd0db98f4a92a311e59c4f89ce75b7f"},
		{"a", "4a876b3cc06f4712a19f4fb8a585fb155b542b9df634f0a9522a799af93196a2"},
		{"part0", "df2888901837ee40db9ed7a9d11f5786e37144c818f2d340a77ab7cdca490fa4"},
		{"part1", "96d9e15aece11377b94b2b9170045965948d4d44db3c944aa054373799031789"},
		{"\x00", "88d17e7fb1ec38c1d3f1a4fe855d5acb8cd8a6035561843edba62b8e480e7ba7"},
		{"\x00\x00", "ff95e0141d7d6ac6038075007c84404b011d1e2ce6e084ff01c59a90f6e5ebe5"},
		{"\xff\xfe", "cfeb192f928a79f126e849dd8235a27217ba096b005736cd3c0d95197fdf8cdf"},
		{"ä→", "14b2427d67ba7cbf030e3f36a6b9a3195602e5b3db08e90a2e246ed5fa443980"},
		{string(message(31)), "e1c52955d2eb110cd02567086daecc0118dcce18835a99c6ff76c3964d4f09f9"},
		{string(message(32)), "5db7e4a488344b1405cf5c5c134d935800d5cefb530a5109377eb0e8bfcf8d5d"},
		{string(message(33)), "7915c4c926b5dd1ca55aaa9fd288e1051bdd031be34c1ff9717328aaa7ffb334"},
		{string(message(63)), "032e987a8e7d374dfde0aaa3f3fede1240e9f19125da984474bf7ff7c95c2242"},
		{string(message(64)), "1252089056dad43ef4a598b3b136ce5672356ee43d7cdd5611c3a12ab61745c8"},
		{string(message(65)), "a13afbe8d623ebf25033dd3a4e0a7dd27dabd54282e52cb14a5d031005f88ad9"},
		{string(message(127)), "59689494f24e7df8e3588cea9097b9fe495f8b5185d149c66246032423f666eb"},
		{string(message(128)), "9d1bd69bb2ef745f145a823e92d28b31a8fa98380b49b5c32cb5781312330f1d"},
		{string(message(129)), "dd8e322560dbcab8919ba323b82fbac0bd93813e4002c3e90ee511320cca722a"},
		{string(message(1000)), "b4c8df61fd46c5cf0fe05fbc34b0a7a22c16bec3fd4f2b79b2abb3e2b97167fb"},
	} {
		d := Derive(key, x.label)
		same(t, "Derive with the label "+x.label, d[:], x.want)
	}
	none, abc := Derive(api.Key{}, ""), Derive(api.Key{}, "abc")
	same(t, "Derive of zero bytes", none[:], "cc8ed046995def3f21db6abcfe34c3526960be9dd3270ed1ab7cfc7f29ad4bd6")
	same(t, "Derive of zero bytes", abc[:], "4a33d50f22e524b07ac2d8e29557bc11810bf0d6e9c64451bc75681a5c05f329")
	var all bytes.Buffer
	for n := range 301 {
		d := Derive(key, string(message(n)))
		all.Write(d[:])
	}
	sameSum(t, "all derived keys", all.Bytes(), "f9623f1be30cd07215783f51232d387f4e46ee2395eef0ec155094db338ad25f")
}
