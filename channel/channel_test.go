package channel_test

import (
	"bytes"
	"math"
	"math/rand"
	"testing"

	"sectime/api"
	"sectime/channel"
)

// known is a channel that another program has computed, with the HKDF of OpenSSL.
type known struct {
	secret, hello                []byte
	key, up, down                string
	exported                     string // 40 bytes for "label" and "context"
	newKey, newUp, newDown       string // renewed with the 32 bytes from 0xc0 on
	first, last, answer, nothing string // records, see TestKnownRecords
}

func knowns() []known {
	return []known{
		{
			counted(0x30, 16), nil,
			"ce49a10d757c56082e5001a4789c7c1bc457aee8d2530a04739ed5db69a0e929", "a633bfdc59ee5c825d42be5e355071d4610ab9eacefc4a9bf14ffcd4bf74f8c7", "d7f3973f4f5e18bb49eab03f2355b57b44b0d3d90da1ecf30c2c1cc7f80f2b83",
			"85c26efd8230e734b771fed46df5ffd5558797d32a070367240217133ed5ab4c46006da04ad6fd66",
			"79266877f5c101c6216f1b0b664b2b69986b25bfa45cc1a01b8df4e9cd3b118c", "3f54489b52b0c5759704de3cafd9094005b9d36b0e9c143f623da2753c86acb9", "88775b243b68a25e9a0228df91adf6a6465a63d24c9546cd7190e698f3685886",
			"160015582b31944914ae639fc4c87e4294a0e490fcbe663e", "ff0024bb5cd5a59ede7e39af3dd919b7f3cb4fd185052cb601c0501969ec0f8a5defa14676ab44",
			"0000194fe418e80be2e06ab49107ec8564403f933e390d22f3081c41", "070010c200d5d4dfec4113e6290f5ca056dfdb",
		},
		{
			counted(0x80, 32), []byte("hello of the client and hello of the server"),
			"667ef4e97fcb2cfe32a5844d6d67d36a16bc1a7f81f7a04edc04d795af6735eb", "1cacbd328fff3954e3e74537a935777fd38d9785afbff5ef02590466ecf7efc2", "d79648e9ce1a6e1a162c10e3c34910809bec7d50e126391c3becf8677fc4b341",
			"81fc7634c24b2631366e39698b51cadf7adf420801b3da675935543f1d2df1385a27d064f2534464",
			"08ca9842eb2ec18e5631f27e6b00fc9e61abea23e5bd451feb393e6e3ff552ee", "2c6505107f9557b9a9b3ed108107db9133177818f9d264a6b39699671b87bdf9", "1bb74c580e5bec46490babab919aa8c8c7f2d33c1f1c5f63c48d149acc8f1702",
			"1600151d6b4e80470d0bdcd4ab2abbaf31e0d0640e0a3063", "ff0024afd80f630bd5f1811587d30ba7372d21bc4342ced5be129b297d4e2301f96e9de649ef37",
			"000019d917efd68ef4ca77dd572dc0cae135d9f68c6e9b8cb849b60a", "070010f7a1d8a74952d997cbe76593eaee7bc8",
		},
		{
			counted(1, 100), counted(0, 300),
			"c38c23d70fb3020a17dafd5874986d9f51f5b64df547b64135b48b711b317cfc", "0250cd20f58465bfebe9aee3c0abfd212c0814cebb21ea17b0141aa1e788d54b", "8f909b127c45529df07c4c57906fd54913590f7f09829e1d0a0462ea7ecc3427",
			"472474a944ad4d0e16594edbd621d2428d6c080c8280074ba2ed2d469a5c6aa0c72fd47bf971b3bb",
			"9acc2c4e55f15d03cd094ef88786513bf4374051e352a35dc34243ee3f9fdc8f", "c30946b8ad1f1ad74a162693a514f2a3fd4afc98c65246456dab9e4090459c3d", "e1972633df98864bc844673a689fb10d36c2841d547923d9675c6ec327da66b9",
			"16001501c63330745a775671d92c1adb4403c9514484c2ca", "ff00246723ac639810d3a280d78aa1d372a53762a4d6c1847bab9536809837cf02511d295f3328",
			"00001941993d8d51bd3396f2d69ec183caa6e49ced472e74356c66ed", "070010e08ea5c2f5ed8c14fb6e28ea10546e7a",
		},
	}
}

func TestKnownChannels(t *testing.T) {
	for k, w := range knowns() {
		up, down := unhex(t, w.up), unhex(t, w.down)
		client, e := channel.Begin(true, w.secret, w.hello)
		if want := (api.Channel{Client: true, Secret: unhex(t, w.key), SendKey: up, ReceiveKey: down}); e != api.OK || !sameChannel(client, want) {
			t.Errorf("channel %d: Begin of the client is %v and %v, want %v", k, client, e, want)
		}
		server, e := channel.Begin(false, w.secret, w.hello)
		if want := (api.Channel{Secret: unhex(t, w.key), SendKey: down, ReceiveKey: up}); e != api.OK || !sameChannel(server, want) {
			t.Errorf("channel %d: Begin of the server is %v and %v, want %v", k, server, e, want)
		}
		up, down = unhex(t, w.newUp), unhex(t, w.newDown)
		for _, c := range []api.Channel{client, server} {
			b, e := channel.Export(c, "label", []byte("context"), 40)
			if e != api.OK || !bytes.Equal(b, unhex(t, w.exported)) {
				t.Errorf("channel %d: Export is %x and %v, want %s", k, b, e, w.exported)
			}
			n, e := channel.Renew(at(c, 7, 8), counted(0xc0, 32))
			want := api.Channel{Client: c.Client, Secret: unhex(t, w.newKey), SendKey: up, ReceiveKey: down}
			if !c.Client {
				want.SendKey, want.ReceiveKey = down, up
			}
			if e != api.OK || !sameChannel(n, want) {
				t.Errorf("channel %d: Renew is %v and %v, want %v", k, n, e, want)
			}
		}
	}
}

// checkBegin compares Begin of both ends with the definition.
func checkBegin(t *testing.T, secret, hello []byte) {
	t.Helper()
	for _, client := range []bool{true, false} {
		got, e := channel.Begin(client, secret, hello)
		want, f := standardBegin(t, client, secret, hello)
		if e != f || !sameChannel(got, want) {
			t.Fatalf("Begin for %d bytes and a hello of %d is %v and %v, want %v and %v", len(secret), len(hello), got, e, want, f)
		}
		if channel.Valid(got) != (e == api.OK) {
			t.Fatalf("Valid of what Begin returns with %v is %v", e, e != api.OK)
		}
	}
}

func TestBegin(t *testing.T) {
	random := rand.New(rand.NewSource(2020))
	for size := range 200 {
		checkBegin(t, randomBytes(random, size), randomBytes(random, random.Intn(200)))
		checkBegin(t, randomBytes(random, 16+random.Intn(100)), randomBytes(random, size))
	}
	for _, size := range []int{1000, 16384, 65534, 65535, 65536, 65537, 1 << 17} {
		checkBegin(t, counted(1, size), nil)
		checkBegin(t, counted(1, 16), counted(1, size))
	}
	checkBegin(t, nil, nil)
	checkBegin(t, make([]byte, 16), make([]byte, 0))
	checkBegin(t, make([]byte, 16), make([]byte, 1))
}

// Each bit of the secret and of the greetings has a part in the keys, and so do their lengths.
func TestBeginOfOtherArguments(t *testing.T) {
	seen := map[string]bool{}
	see := func(secret, hello []byte) {
		c, e := channel.Begin(true, secret, hello)
		for _, b := range [][]byte{c.Secret, c.SendKey, c.ReceiveKey} {
			if e != api.OK || seen[string(b)] {
				t.Fatalf("Begin for %x and %x is %v and %v, with bytes that were there already", secret, hello, c, e)
			}
			seen[string(b)] = true
		}
	}
	secret, hello := counted(3, 20), counted(4, 30)
	see(secret, hello)
	for k := range 8 * len(secret) {
		b := bytes.Clone(secret)
		b[k/8] ^= 1 << (k % 8)
		see(b, hello)
	}
	for k := range 8 * len(hello) {
		b := bytes.Clone(hello)
		b[k/8] ^= 1 << (k % 8)
		see(secret, b)
	}
	see(secret[1:], hello)
	see(secret[:19], hello)
	see(secret, hello[1:])
	see(secret, hello[:29])
	see(secret, append(bytes.Clone(hello), 0))
	see(secret, nil)
}

func TestValid(t *testing.T) {
	for _, c := range valid(t) {
		if !channel.Valid(c) {
			t.Errorf("%v is not valid", c)
		}
		for _, how := range changes() {
			bad := cloned(c)
			how.change(&bad)
			if channel.Valid(bad) || standardValid(t, bad) {
				t.Errorf("with %s, %v is valid", how.name, bad)
			}
		}
	}
	for _, c := range []api.Channel{{}, {Client: true}, {Secret: []byte{}, SendKey: []byte{}, ReceiveKey: []byte{}}, {Secret: make([]byte, 32), SendKey: make([]byte, 32), ReceiveKey: make([]byte, 32)}} {
		if channel.Valid(c) {
			t.Errorf("%v is valid", c)
		}
	}
}

// The keys must follow from the secret as a whole, for both ends.
func TestValidOfChangedBits(t *testing.T) {
	client, server := ends(t)
	for _, c := range []api.Channel{client, server} {
		for k := range 8 * 32 {
			for way := range 3 {
				bad := cloned(c)
				[][]byte{bad.Secret, bad.SendKey, bad.ReceiveKey}[way][k/8] ^= 1 << (k % 8)
				if channel.Valid(bad) {
					t.Fatalf("with the bit %d of %d changed, %v is valid", k, way, bad)
				}
			}
		}
	}
}

// Keys that do follow from a secret, which has a wrong length.
func TestLengthsOfSecrets(t *testing.T) {
	for size := range 100 {
		for _, client := range []bool{true, false} {
			if c := standardEnd(t, client, counted(5, size)); channel.Valid(c) != (size == 32) {
				t.Errorf("with a secret of %d bytes, Valid is %v", size, size != 32)
			}
		}
	}
}

// Keys of all lengths that begin as the right ones do.
func TestLengthsOfKeys(t *testing.T) {
	client, _ := ends(t)
	up, down := standardExpand(t, client.Secret, "sectime up", 100), standardExpand(t, client.Secret, "sectime down", 100)
	for size := range 100 {
		a, b := client, client
		a.SendKey, b.ReceiveKey = up[:size], down[:size]
		if channel.Valid(a) != (size == 32) || channel.Valid(b) != (size == 32) {
			t.Errorf("with keys of %d bytes, Valid is %v and %v", size, channel.Valid(a), channel.Valid(b))
		}
	}
}

// checkExport compares Export with the definition.
func checkExport(t *testing.T, c api.Channel, label string, context []byte, n int) []byte {
	t.Helper()
	got, e := channel.Export(c, label, context, n)
	want, f := standardExport(t, c, label, context, n)
	if e != f || !bytes.Equal(got, want) {
		t.Fatalf("Export of %q, %x and %d is %x and %v, want %x and %v", label, context, n, got, e, want, f)
	}
	return got
}

// Both ends export the same, whatever they have sent, and shorter exports are the beginnings of longer ones.
func TestExport(t *testing.T) {
	client, server := ends(t)
	for _, label := range []string{"", "label", "sectime keys", "\x00", "a\x00b", "caf\u00e9", "\xff\xfe", string(counted(0, 1000))} {
		for _, context := range [][]byte{nil, {}, {0}, {0, 0, 0, 15, 1}, counted(7, 32), counted(7, 64), counted(7, 70000)} {
			long := checkExport(t, client, label, context, 200)
			for _, c := range []api.Channel{server, at(client, 5, most), at(server, most, 3)} {
				if got := checkExport(t, c, label, context, 200); !bytes.Equal(got, long) {
					t.Errorf("Export of %q and %x is %x at one end, and %x at the other", label, context, long, got)
				}
			}
			for _, n := range []int{0, 1, 16, 31, 32, 33, 64, 65} {
				if got := checkExport(t, server, label, context, n); !bytes.Equal(got, long[:n]) {
					t.Errorf("Export of %d bytes is %x, that of 200 is %x", n, got, long)
				}
			}
		}
	}
	for n := range 400 {
		checkExport(t, client, "label", nil, n)
	}
	checkExport(t, client, "label", nil, 8159)
	checkExport(t, server, "label", nil, 8160)
}

// Other labels, contexts and secrets lead to other bytes.
func TestExportOfOtherArguments(t *testing.T) {
	client, _ := ends(t)
	other := standardEnd(t, true, counted(0x41, 32))
	seen := map[string]int{}
	for k, b := range [][]byte{
		checkExport(t, client, "", nil, 32), checkExport(t, client, "a", nil, 32), checkExport(t, client, "A", nil, 32), checkExport(t, client, "a\x00", nil, 32), checkExport(t, client, "\x00a", nil, 32),
		checkExport(t, client, "", []byte("a"), 32), checkExport(t, client, "a", []byte("a"), 32), checkExport(t, client, "a", []byte{0}, 32), checkExport(t, client, "a", []byte{0, 0}, 32), checkExport(t, client, "a", []byte{1}, 32),
		checkExport(t, other, "", nil, 32), checkExport(t, other, "a", nil, 32),
		client.SendKey, client.ReceiveKey, client.Secret,
	} {
		if first, ok := seen[string(b)]; ok {
			t.Errorf("cases %d and %d have the same bytes", first, k)
		}
		seen[string(b)] = k
	}
}

func TestExportErrors(t *testing.T) {
	client, server := ends(t)
	for _, c := range []api.Channel{client, server} {
		for _, n := range []int{-1, 8161, 8160 + 1<<32, 65536, math.MinInt, math.MaxInt} {
			if b, e := channel.Export(c, "label", []byte("context"), n); e != api.ErrRange || len(b) != 0 {
				t.Errorf("Export of %d bytes is %x and %v, want ErrRange", n, b, e)
			}
		}
		for _, how := range changes() {
			bad := cloned(c)
			how.change(&bad)
			for _, n := range []int{0, 32, -1, 8161, math.MinInt, math.MaxInt} {
				if b, e := channel.Export(bad, "label", nil, n); e != api.ErrForm || len(b) != 0 {
					t.Errorf("Export of %d bytes with %s is %x and %v, want ErrForm", n, how.name, b, e)
				}
			}
		}
	}
}

// checkRenew compares Renew with the definition.
func checkRenew(t *testing.T, c api.Channel, fresh []byte) api.Channel {
	t.Helper()
	got, e := channel.Renew(c, fresh)
	want, f := standardRenew(t, c, fresh)
	if e != f || !sameChannel(got, want) {
		t.Fatalf("Renew of %v with %x is %v and %v, want %v and %v", c, fresh, got, e, want, f)
	}
	return got
}

func TestRenew(t *testing.T) {
	random := rand.New(rand.NewSource(2021))
	for _, c := range valid(t) {
		for _, size := range []int{0, 1, 15, 16, 17, 31, 32, 33, 63, 64, 65, 128} {
			n := checkRenew(t, c, randomBytes(random, size))
			if channel.Valid(n) != (size >= 16 && size <= 64) {
				t.Errorf("with %d bytes, Renew returns %v", size, n)
			}
		}
	}
	client, server := ends(t)
	for size := range 200 {
		checkRenew(t, at(client, 1, 2), make([]byte, size))
		checkRenew(t, server, counted(1, size))
	}
	checkRenew(t, server, make([]byte, 65536))
	for _, c := range []api.Channel{client, server} {
		for _, how := range changes() {
			bad := cloned(c)
			how.change(&bad)
			for _, size := range []int{0, 15, 16, 64, 65} {
				if n, e := channel.Renew(bad, counted(1, size)); e != api.ErrForm || !sameChannel(n, api.Channel{}) {
					t.Errorf("Renew with %s and %d bytes is %v and %v, want ErrForm", how.name, size, n, e)
				}
			}
		}
	}
}

// Behind Renew nothing is as before: neither what is exported, nor the keys, nor what is received.
func TestRenewChangesAll(t *testing.T) {
	client, server := ends(t)
	seen := map[string]bool{}
	for k := range 50 {
		for _, b := range [][]byte{client.Secret, client.SendKey, client.ReceiveKey, checkExport(t, client, "label", nil, 32)} {
			if seen[string(b)] {
				t.Fatalf("after %d times Renew, %x comes again", k, b)
			}
			seen[string(b)] = true
		}
		old, oldServer := client, server
		c, record, e := channel.Send(client, 1, []byte("some bytes"))
		if e != api.OK {
			t.Fatalf("Send returns %v", e)
		}
		client, server = checkRenew(t, c, counted(1, 16+k%49)), checkRenew(t, server, counted(1, 16+k%49))
		if !bytes.Equal(client.SendKey, server.ReceiveKey) || !bytes.Equal(client.ReceiveKey, server.SendKey) {
			t.Fatal("the two ends do not belong to one another after Renew")
		}
		checkReceive(t, server, record, api.ErrAuth)
		_, record, _ = channel.Send(client, 1, []byte("some bytes"))
		checkReceive(t, oldServer, record, api.ErrAuth)
		checkReceive(t, server, record, api.OK)
		checkRenew(t, old, counted(2, 16)) // which is another channel
	}
}
