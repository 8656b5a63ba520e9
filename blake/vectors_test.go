package blake

import (
	"encoding/hex"
	"math/big"
	"strconv"
	"strings"
	"testing"

	"fenland/api"
)

// The digests in this file are those of two other implementations: of CPython's hashlib, and, for counters that no byte
// string within the limits reaches, of one that was checked against it.

// message returns n bytes that have another period than blocks.
func message(n int) []byte {
	b := make([]byte, n)
	for i := range b {
		b[i] = byte(i % 251)
	}
	return b
}

// secret returns a key of n bytes.
func secret(n int) []byte {
	key := make([]byte, n)
	for i := range key {
		key[i] = byte(255 - i)
	}
	return key
}

// rising returns the n bytes 0, 1, 2, ..
func rising(n int) []byte {
	b := make([]byte, n)
	for i := range b {
		b[i] = byte(i)
	}
	return b
}

func same(t *testing.T, name string, d api.Digest, want string) {
	t.Helper()
	if hex.EncodeToString(d[:]) != want {
		t.Errorf("%s: %x; want %s", name, d, want)
	}
}

// P2.1: the section 'Examples', and the examples in B1 and B2.
func TestExamples(t *testing.T) {
	same(t, "Sum of no bytes", Sum(nil), "69217a3079908094e11121d042354a7c1f55b6482ca1a51e1b250dfd1ed0eef9")
	same(t, "Sum(abc)", Sum([]byte("abc")), "508c5e8c327c14e2e1a72ba34eeb452f37458b209ed63a294d999b4c86675982")
	same(t, "Keyed", Keyed(rising(32), nil), "48a8997da407876b3d79c0d92325ad3b89cbb754d86ab71aee047ad345fd2c49")
	if d := Sum([]byte("abc")); [4]byte(d[:4]) != [4]byte{0x50, 0x8c, 0x5e, 0x8c} {
		t.Errorf("Sum(abc) begins with %x", d[:4])
	}
	if Leaf(nil) != Sum([]byte{0}) || Leaf([]byte{}) != Sum([]byte{0}) {
		t.Error("Leaf of no bytes is not Sum of one zero byte")
	}
}

// digests are those of message with secret, by the numbers of bytes of the key and of the message.
var digests = []struct {
	key, message int
	want         string
}{
	{0, 0, "69217a3079908094e11121d042354a7c1f55b6482ca1a51e1b250dfd1ed0eef9"},
	{0, 1, "e34d74dbaf4ff4c6abd871cc220451d2ea2648846c7757fbaac82fe51ad64bea"},
	{0, 63, "e57cb79487dd57902432b250733813bd96a84efce59f650fac26e6696aefafc3"},
	{0, 64, "56f34e8b96557e90c1f24b52d0c89d51086acf1b00f634cf1dde9233b8eaaa3e"},
	{0, 65, "1b53ee94aaf34e4b159d48de352c7f0661d0a40edff95a0b1639b4090e974472"},
	{0, 127, "f18417b39d617ab1c18fdf91ebd0fc6d5516bb34cf39364037bce81fa04cecb1"},
	{0, 128, "1fa877de67259d19863a2a34bcc6962a2b25fcbf5cbecd7ede8f1fa36688a796"},
	{0, 129, "5bd169e67c82c2c2e98ef7008bdf261f2ddf30b1c00f9e7f275bb3e8a28dc9a2"},
	{0, 1048576, "627d07f94f87954340a1215d9be99e5c7263ab96e569369613d2811f9ae71b64"},
	{0, 1048577, "5b6a9e00d9e93e5e5702a6a6f6853905a79f10243d6883f9d49b5e32c43ff310"},
	{1, 0, "93915f976c076e88f430c51cc4bc762a858478ab202e57c22e7783f9e3bd8445"},
	{1, 1, "0d3377db9f771191f50dfbe1eee30d80f67ea3308ce6c63d5c743cbb215a9a33"},
	{1, 63, "758e92d3232ea59b54d8ba7b87e38fbca6f725ef935580f812ca023c0f017e5f"},
	{1, 64, "1b3fe4311101b708dc1a5b17ae7f6bef782afaed688331ec79ce7016c0658b16"},
	{1, 65, "0da44fc708913dbd10ebbddadb684a25c49a6d70ab66644772a2970549e68a84"},
	{1, 127, "d2d7887ac8cfdfa0ecd7de3d5d7915f05d688ba5fe994face281553d03f83815"},
	{1, 128, "cb56025c209132df8d0f0f803458ec58e2ff605b821b16eee1582bdc628aea56"},
	{1, 129, "e43c246e63b270c9f21c1b4ff638fc29a03ee8481a50392e2e833c2f4ecb1fb0"},
	{31, 0, "77ee5bf894f2d25932e35edfedfed3056d7fb4b4b6234708387a79de1757be3e"},
	{31, 1, "8741e81407d5353caf9d3fe28ad21f3318752d86b7000226eeb9721d5b7a5847"},
	{31, 63, "32781a6ae9c8c284019cbdabd687e85ef732a38837bdc2fe968145616107c13b"},
	{31, 64, "9009486e5e60072a53e580858a1ce736f2ea4d154da9c0a844f21e670699cbbf"},
	{31, 65, "7ff3c55e3445321d5f05f2ff97a15a06453bf26986230ed568703e00fa02c750"},
	{31, 127, "cb64f2822f85b0bfa8a509d867b4829d93c3483f3307286138dfabf166970d37"},
	{31, 128, "74201e3378d356dcb71a46dd7ce1e309b6fe4f6277d7c33abd1ac81e1b6e2d06"},
	{31, 129, "a89e259d8a13af8c7bace76f1f54e5f5986b925b6fdd3c44572497587e9123ad"},
	{32, 0, "865ed9e0d6a8e5d7fb3602f4213101a7bbd0db98f4a92a311e59c4f89ce75b7f"},
	{32, 1, "88d17e7fb1ec38c1d3f1a4fe855d5acb8cd8a6035561843edba62b8e480e7ba7"},
	{32, 63, "032e987a8e7d374dfde0aaa3f3fede1240e9f19125da984474bf7ff7c95c2242"},
	{32, 64, "1252089056dad43ef4a598b3b136ce5672356ee43d7cdd5611c3a12ab61745c8"},
	{32, 65, "a13afbe8d623ebf25033dd3a4e0a7dd27dabd54282e52cb14a5d031005f88ad9"},
	{32, 127, "59689494f24e7df8e3588cea9097b9fe495f8b5185d149c66246032423f666eb"},
	{32, 128, "9d1bd69bb2ef745f145a823e92d28b31a8fa98380b49b5c32cb5781312330f1d"},
	{32, 129, "dd8e322560dbcab8919ba323b82fbac0bd93813e4002c3e90ee511320cca722a"},
	{32, 1048576, "fe3afe86b055b75b2250d8e379a5d4a1eb03333904708851b362e0b6845c65ae"},
	{32, 1048577, "52d3846a6001bde8bdb3a341a60fc71422dd4594eab64d410d44a8ae43c2b92d"},
}

// P2.1: the edges of blocks and keys, and objects of the greatest size.
func TestDigests(t *testing.T) {
	for _, x := range digests {
		name := "a key of " + strconv.Itoa(x.key) + " bytes, and " + strconv.Itoa(x.message)
		same(t, name, Keyed(secret(x.key), message(x.message)), x.want)
		if x.key == 0 {
			same(t, "no key, and "+strconv.Itoa(x.message)+" bytes", Sum(message(x.message)), x.want)
		}
	}
}

// P2.2: of longer keys, the first 32 bytes are the key.
func TestDigestsWithLongKeys(t *testing.T) {
	for _, x := range digests {
		if x.key != 32 || x.message > 1000 {
			continue
		}
		for _, n := range []int{33, 63, 64, 65, 96, 128, 1000} {
			name := "a key of " + strconv.Itoa(n) + " bytes, and " + strconv.Itoa(x.message)
			same(t, name, Keyed(secret(n), message(x.message)), x.want)
		}
	}
}

// P2.1: every length of a key and of a message up to several blocks, as the digest of all the digests.
func TestDigestsOfAllLengths(t *testing.T) {
	var all, published []byte
	for k := range 33 {
		for n := range 301 {
			d := Keyed(secret(k), message(n))
			all = append(all, d[:]...)
		}
	}
	same(t, "all digests", Sum(all), "812aa2890632bb39ae6cbbb4f42826d3bb8183f08f91f66d03da81f907fa33e5")
	for n := range 256 {
		d := Keyed(rising(32), rising(n))
		published = append(published, d[:]...)
	}
	same(t, "all digests", Sum(published), "2582f7b18a91f66ef22aa9455384ada69b2590306a6470ee8588df75ee982f02")
}

// nodes are the digests of leaves and pairs, by the number of bytes of their content; the digests below the pairs are Sum
// of no bytes and Sum(abc). With what precedes the content, 63 and 127 bytes of it make whole blocks.
var nodes = []struct {
	content    int
	leaf, pair string
}{
	{0, "e34d74dbaf4ff4c6abd871cc220451d2ea2648846c7757fbaac82fe51ad64bea", "8b2d682ce30f796203e29b0af08047cb7db9fb644d8559718ec8e81311fffe7f"},
	{1, "774f9018b4b2cdc08f8928e89b0d963ac388e537b003492c69aafeeab976e553", "bbc94d36bacf3f3a50a5a9367afc9bf32628225854ddf27f440f26c9fd01c2fb"},
	{61, "80e03db3e4a5bc19200d4f1bad13c6725100694da40f217e7881211bc0fbc3a4", "bd2e73c4e9e49359e6c757f0ac8c76df88bf38d1130c40cd1f85bf19351ce871"},
	{62, "26c4efda244e68e4bb40d9e8976583c6dd6a9ed084298ad0b9608b16735dbe0e", "2fe1d7980daabaccec6204b9c36934dc888345ef8814ec221a8f11d292cfb5bc"},
	{63, "5c83ea9b1dfe1da7712307fcdaf7e155f73672a9254d5ac3ffc9dc0c596e610d", "0bd91ca36852b389a5c79a020dead60abacea36d914fbb0f91f5c5e43e7d36d1"},
	{64, "38e0631f82cc53907d638175af8d932f2d31a2f86dd49f49b759fb06ff6f1cc2", "fc16315c9e942bf1635c7de8d7b7a29acf8d3a4a376223cb1b937636ef5a1ba8"},
	{126, "d19552923029fdd915222a2fc06bb5025b7d6c194ae44bb1b3c9994f2d604db2", "39984c135c3bd905b31c6d6d39e7970fe2233c8e96b8cd787a0795b62cac5f78"},
	{127, "8d7d9e868b48e2d24c924756aaf1681a25becd4cf2c30f6646662c6697cfc571", "5b33f147de67e149516cea54380292c39246fc70ab9da85abb2ccc96ae19811e"},
	{128, "bbe93ff4bab1bd357875be4a720b4deceacc953520f0f4276af5a62f1a70d6bb", "2fa7622452278fad8678492ba9f5e34a251a70c8846dba767a38be4f72abc941"},
	{1048576, "629db5b7a84b6d096b5b9db3b0ae6c8b8b7d893603b85197193ea3e1b109bcf8", "7442541e02f708de2f5f711b0284f93261a7cd098ef82a48297a7632ac4a723a"},
}

// P2.1: B2.
func TestNodes(t *testing.T) {
	for _, x := range nodes {
		b := message(x.content)
		same(t, "Leaf of "+strconv.Itoa(x.content)+" bytes", Leaf(b), x.leaf)
		same(t, "Pair with "+strconv.Itoa(x.content)+" bytes", Pair(Sum(nil), Sum([]byte("abc")), b), x.pair)
	}
}

// counters are the states after one block with the flag not set and set, for counters with an upper word.
var counters = []struct {
	t           uint64
	open, final string
}{
	{1<<32 - 1, "e2a17f7dec7a3f7cb20ba48b7066b072429c41e1b6fc833e10d7743790f1008d", "456630b5cb2debdc3d87072d6af9e44b353cc4119bc8639edb12132cb438c5a1"},
	{1 << 32, "83991ec1e3a1d6a6f4f03faed98f278293fc89b7607c6772480666d41cad3c25", "eeb0ead1954811c3f953a763d5402e63edcd21cf363a308cb363a98cb96990d7"},
	{1<<32 + 64, "2f25368f3a9e2c7756efff802f0ae42e609f424ca9db3279b4ced77f0894a662", "fa7b14fea365a64107a6dcef31a8a1a4ceabf187d572691d4aa33730e0dfd04c"},
	{1<<63 + 1<<31, "aa89f94b2e85c45edf16d98990d5e92d15208cba5bdcffbef3a1f922386a0f20", "b8c8f6a57203deb7b2447be4ee65d8848c80d08d4e1ac18243f52e0ce10c7b11"},
	{1<<64 - 1, "a38ad6ecbbf395c008d872915874f6e477eb72281c67ad6b56f3e8e1539ddd7c", "74eef0827d13be4708d525f0b6f3f7b0619396c18aa69dd34bc464e96ad620af"},
}

func hexWords(h [8]uint32) string {
	var l strings.Builder
	for _, w := range h {
		l.WriteString(hex.EncodeToString([]byte{byte(w >> 24), byte(w >> 16), byte(w >> 8), byte(w)}))
	}
	return l.String()
}

// P2.1: the counter has 64 bits, both words of which are mixed in.
func TestCounters(t *testing.T) {
	var m [16]uint32
	wide := make([]uint64, len(m))
	for i := range m {
		m[i] = uint32(i) * 0x9e3779b9
		wide[i] = uint64(m[i])
	}
	for _, x := range counters {
		if got := hexWords(compress(iv, m, x.t, false)); got != x.open {
			t.Errorf("the counter %d without the flag: %s", x.t, got)
		}
		if got := hexWords(compress(iv, m, x.t, true)); got != x.final {
			t.Errorf("the counter %d with the flag: %s", x.t, got)
		}
		var h [8]uint32
		for i, w := range wantCompress(startOfState(), wide, new(big.Int).SetUint64(x.t), true) {
			h[i] = uint32(w)
		}
		if got := hexWords(h); got != x.final {
			t.Errorf("the oracle with the counter %d: %s", x.t, got)
		}
	}
}
