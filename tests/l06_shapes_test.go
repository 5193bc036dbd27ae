package tests

import (
	"math"
	"strings"
	"testing"

	"loop.example/g01231/impl"
)

func TestEdgeSection(t *testing.T) {
	minus, inf, nan, high := minusZero(), infinite(), notNumber(), float32(math.MaxFloat32)
	for _, c := range []struct {
		s    impl.Section
		want string
	}{
		{sectionOf(1, 1, 3), "1x1:00000000,;true;"},
		{sectionOf(1, 1, minus), "1x1:00000000,;true;"},
		{sectionOf(1, 1, inf), "1x1:7fc00000,;true;"},
		{sectionOf(1, 1, nan), "1x1:7fc00000,;true;"},
		{sectionOf(1, 2, 3, 8), "1x2:40200000,40200000,;true;"},
		{sectionOf(2, 1, 3, 8), "2x1:00000000,00000000,;true;"},
		{sectionOf(2, 2, 1, -4, 2, 0), "2x2:3f000000,40000000,3f000000,40000000,;true;"},
		{sectionOf(1, 4, 1, 3, 7, 0), "1x4:3f800000,40400000,bfc00000,c0600000,;true;"},
		{sectionOf(4, 1, 1, 3, 7, 0), "4x1:00000000,00000000,00000000,00000000,;true;"},
		{sectionOf(3, 3, 1, 2, 4, 8, 16, 32, 64, 128, 256), "3x3:40600000,40e00000,41600000,41fc0000,427c0000,42fc0000,41e00000,42600000,42e00000,;true;"},
		{sectionOf(2, 3, 0.1, 0.2, 0.3, 0.4, 0.5, 0.7), "2x3:3dccccce,3dcccccd,3e4ccccd,3e800000,3dcccccc,3e199999,;true;"},
		{sectionOf(3, 2, 0.1, 0.2, 0.3, 0.4, 0.5, 0.7), "3x2:3e19999a,3e19999a,3e4ccccc,3e19999a,3e19999a,3e4ccccc,;true;"},
		{sectionOf(2, 2, minus, minus, minus, minus), "2x2:00000000,00000000,00000000,00000000,;true;"},
		{sectionOf(2, 2, 0, minus, minus, 0), "2x2:80000000,00000000,80000000,00000000,;true;"},
		{sectionOf(2, 2, inf, 1, -inf, inf), "2x2:ff800000,7f800000,ff800000,7f800000,;true;"},
		{sectionOf(2, 2, nan, 1, 2, 3), "2x2:7fc00000,3f800000,7fc00000,3f800000,;true;"},
		{sectionOf(1, 2, high, -high), "1x2:ff800000,ff800000,;true;"},
		{sectionOf(1, 2, -high, high), "1x2:7f800000,7f800000,;true;"},
		{sectionOf(2, 2, high, high, high, high), "2x2:00000000,00000000,00000000,00000000,;true;"},
		{sectionOf(1, 3, num(1), num(3), num(4)), "1x3:00000001,00000002,00000000,;true;"},
		{sectionOf(3, 1, num(1), num(3), num(4)), "3x1:00000000,00000000,00000000,;true;"},
		{sectionOf(3, 3, 1e8, 1, -1e8, 1, 1, 1, -1e8, 1, 1e8), "3x3:cc3ebc20,00000000,4c3ebc20,ccbebc20,00000000,4cbebc20,cc3ebc20,00000000,4c3ebc20,;true;"},
		{sectionOf(3, 3, 3, 1e8, 1, -1e8, 1, 5, 7, 1, 1), "3x3:cc3ebc20,cc3ebc20,40000000,40000000,cc3ebc20,00000000,4c3ebc21,00000000,c0000000,;true;"},
		{sectionOf(1, 3, 16777216, 1, -16777215), "1x3:caffffff,cb800000,cb000000,;true;"},
		{sectionOf(1, 1), "0x0:;false;"},
		{sectionBy(4, 4, 3), "4x4:3e133330,3ede703b,be9e83e4,3eb91d14,3eaa1cac,3f870a3d,3e9ce076,3edd8ada,be7013a4,3d31f8a0,3f60c49c,bf3bafb8,bed88ce6,bf13bcd3,3e8624de,bf4de69b,;true;"},
	} {
		isShown(t, show(c.s), show(impl.EdgeSection(c.s)), c.want)
	}
	var all strings.Builder
	for _, s := range someSections() {
		all.WriteString(show(impl.EdgeSection(s)))
	}
	isShown(t, "some", digest(all.String()), "3fd1dab0")
}

func TestSmoothSection(t *testing.T) {
	minus, inf, nan, high := minusZero(), infinite(), notNumber(), float32(math.MaxFloat32)
	for _, c := range []struct {
		s     impl.Section
		share float32
		want  string
	}{
		{sectionOf(1, 1, 3), 0, "1x1:40400000,;true;"},
		{sectionOf(1, 1, 3), 1, "1x1:40400000,;true;"},
		{sectionOf(1, 1, 3), 0.3, "1x1:40400000,;true;"},
		{sectionOf(1, 1, minus), 0, "1x1:80000000,;true;"},
		{sectionOf(1, 1, minus), 1, "1x1:80000000,;true;"},
		{sectionOf(1, 1, minus), 0.3, "1x1:80000000,;true;"},
		{sectionOf(1, 1, inf), 0, "1x1:7fc00000,;true;"},
		{sectionOf(1, 1, inf), 1, "1x1:7fc00000,;true;"},
		{sectionOf(1, 1, inf), 0.3, "1x1:7f800000,;true;"},
		{sectionOf(1, 1, nan), 0, "1x1:7fc00000,;true;"},
		{sectionOf(1, 1, nan), 1, "1x1:7fc00000,;true;"},
		{sectionOf(1, 1, nan), 0.3, "1x1:7fc00000,;true;"},
		{sectionOf(1, 2, 3, 8), 0, "1x2:40400000,41000000,;true;"},
		{sectionOf(1, 2, 3, 8), 1, "1x2:40880000,40d80000,;true;"},
		{sectionOf(1, 2, 3, 8), 0.3, "1x2:40580000,40f40000,;true;"},
		{sectionOf(2, 1, 3, 8), 0, "2x1:40400000,41000000,;true;"},
		{sectionOf(2, 1, 3, 8), 1, "2x1:40880000,40d80000,;true;"},
		{sectionOf(2, 1, 3, 8), 0.3, "2x1:40580000,40f40000,;true;"},
		{sectionOf(2, 2, 1, -4, 2, 0), 0, "2x2:3f800000,c0800000,40000000,00000000,;true;"},
		{sectionOf(2, 2, 1, -4, 2, 0), 1, "2x2:00000000,bfe00000,3fa00000,bf000000,;true;"},
		{sectionOf(2, 2, 1, -4, 2, 0), 0.3, "2x2:3f333333,c054cccd,3fe33333,be19999a,;true;"},
		{sectionOf(1, 4, 1, 3, 7, 0), 0, "1x4:3f800000,40400000,40e00000,00000000,;true;"},
		{sectionOf(1, 4, 1, 3, 7, 0), 1, "1x4:3fc00000,40600000,40880000,3fe00000,;true;"},
		{sectionOf(1, 4, 1, 3, 7, 0), 0.3, "1x4:3f933333,4049999a,40c5999a,3f066667,;true;"},
		{sectionOf(4, 1, 1, 3, 7, 0), 0, "4x1:3f800000,40400000,40e00000,00000000,;true;"},
		{sectionOf(4, 1, 1, 3, 7, 0), 1, "4x1:3fc00000,40600000,40880000,3fe00000,;true;"},
		{sectionOf(4, 1, 1, 3, 7, 0), 0.3, "4x1:3f933333,4049999a,40c5999a,3f066667,;true;"},
		{sectionOf(3, 3, 1, 2, 4, 8, 16, 32, 64, 128, 256), 0, "3x3:3f800000,40000000,40800000,41000000,41800000,42000000,42800000,43000000,43800000,;true;"},
		{sectionOf(3, 3, 1, 2, 4, 8, 16, 32, 64, 128, 256), 1, "3x3:40400000,40b80000,41280000,41b20000,422a0000,429a0000,42840000,42e80000,43280000,;true;"},
		{sectionOf(3, 3, 1, 2, 4, 8, 16, 32, 64, 128, 256), 0.3, "3x3:3fcccccd,40480000,40be6666,41446666,41bf999a,42360000,42813333,42f8cccd,4365999a,;true;"},
		{sectionOf(2, 3, 0.1, 0.2, 0.3, 0.4, 0.5, 0.7), 0, "2x3:3dcccccd,3e4ccccd,3e99999a,3ecccccd,3f000000,3f333333,;true;"},
		{sectionOf(2, 3, 0.1, 0.2, 0.3, 0.4, 0.5, 0.7), 1, "2x3:3e333334,3e666666,3ea66667,3ecccccd,3f000000,3f133333,;true;"},
		{sectionOf(2, 3, 0.1, 0.2, 0.3, 0.4, 0.5, 0.7), 0.3, "2x3:3dfae148,3e547ae2,3e9d70a4,3ecccccd,3f000000,3f299999,;true;"},
		{sectionOf(3, 2, 0.1, 0.2, 0.3, 0.4, 0.5, 0.7), 0, "3x2:3dcccccd,3e4ccccd,3e99999a,3ecccccd,3f000000,3f333333,;true;"},
		{sectionOf(3, 2, 0.1, 0.2, 0.3, 0.4, 0.5, 0.7), 1, "3x2:3e4ccccd,3e8ccccd,3ec00000,3eb33333,3ee66667,3f0ccccd,;true;"},
		{sectionOf(3, 2, 0.1, 0.2, 0.3, 0.4, 0.5, 0.7), 0.3, "3x2:3e051eb8,3e63d70a,3ea51eb9,3ec51eb8,3ef851ec,3f27ae14,;true;"},
		{sectionOf(2, 2, minus, minus, minus, minus), 0, "2x2:80000000,80000000,80000000,80000000,;true;"},
		{sectionOf(2, 2, minus, minus, minus, minus), 1, "2x2:80000000,80000000,80000000,80000000,;true;"},
		{sectionOf(2, 2, minus, minus, minus, minus), 0.3, "2x2:80000000,80000000,80000000,80000000,;true;"},
		{sectionOf(2, 2, 0, minus, minus, 0), 0, "2x2:00000000,00000000,00000000,00000000,;true;"},
		{sectionOf(2, 2, 0, minus, minus, 0), 1, "2x2:00000000,00000000,00000000,00000000,;true;"},
		{sectionOf(2, 2, 0, minus, minus, 0), 0.3, "2x2:00000000,00000000,00000000,00000000,;true;"},
		{sectionOf(2, 2, inf, 1, -inf, inf), 0, "2x2:7fc00000,7fc00000,7fc00000,7fc00000,;true;"},
		{sectionOf(2, 2, inf, 1, -inf, inf), 1, "2x2:7fc00000,7f800000,7fc00000,7fc00000,;true;"},
		{sectionOf(2, 2, inf, 1, -inf, inf), 0.3, "2x2:7fc00000,7f800000,7fc00000,7fc00000,;true;"},
		{sectionOf(2, 2, nan, 1, 2, 3), 0, "2x2:7fc00000,7fc00000,7fc00000,40400000,;true;"},
		{sectionOf(2, 2, nan, 1, 2, 3), 1, "2x2:7fc00000,7fc00000,7fc00000,40100000,;true;"},
		{sectionOf(2, 2, nan, 1, 2, 3), 0.3, "2x2:7fc00000,7fc00000,7fc00000,40319999,;true;"},
		{sectionOf(1, 2, high, -high), 0, "1x2:7fc00000,7fc00000,;true;"},
		{sectionOf(1, 2, high, -high), 1, "1x2:7f800000,ff800000,;true;"},
		{sectionOf(1, 2, high, -high), 0.3, "1x2:7f800000,ff800000,;true;"},
		{sectionOf(1, 2, -high, high), 0, "1x2:7fc00000,7fc00000,;true;"},
		{sectionOf(1, 2, -high, high), 1, "1x2:ff800000,7f800000,;true;"},
		{sectionOf(1, 2, -high, high), 0.3, "1x2:ff800000,7f800000,;true;"},
		{sectionOf(2, 2, high, high, high, high), 0, "2x2:7fc00000,7fc00000,7fc00000,7fc00000,;true;"},
		{sectionOf(2, 2, high, high, high, high), 1, "2x2:7f800000,7f800000,7f800000,7f800000,;true;"},
		{sectionOf(2, 2, high, high, high, high), 0.3, "2x2:7f800000,7f800000,7f800000,7f800000,;true;"},
		{sectionOf(1, 3, num(1), num(3), num(4)), 0, "1x3:00000001,00000003,00000004,;true;"},
		{sectionOf(1, 3, num(1), num(3), num(4)), 1, "1x3:00000002,00000003,00000004,;true;"},
		{sectionOf(1, 3, num(1), num(3), num(4)), 0.3, "1x3:00000002,00000003,00000004,;true;"},
		{sectionOf(3, 1, num(1), num(3), num(4)), 0, "3x1:00000001,00000003,00000004,;true;"},
		{sectionOf(3, 1, num(1), num(3), num(4)), 1, "3x1:00000002,00000003,00000004,;true;"},
		{sectionOf(3, 1, num(1), num(3), num(4)), 0.3, "3x1:00000002,00000003,00000004,;true;"},
		{sectionOf(3, 3, 1e8, 1, -1e8, 1, 1, 1, -1e8, 1, 1e8), 0, "3x3:4cbebc20,3f800000,ccbebc20,3f800000,3f800000,3f800000,ccbebc20,3f800000,4cbebc20,;true;"},
		{sectionOf(3, 3, 1e8, 1, -1e8, 1, 1, 1, -1e8, 1, 1e8), 1, "3x3:4c3ebc20,3f000000,cc3ebc20,00000000,3f800000,00000000,cc3ebc20,3f000000,4c3ebc20,;true;"},
		{sectionOf(3, 3, 1e8, 1, -1e8, 1, 1, 1, -1e8, 1, 1e8), 0.3, "3x3:4ca21fe8,3f59999a,cca21fe8,3f333333,3f800000,3f333333,cca21fe8,3f59999a,4ca21fe8,;true;"},
		{sectionOf(3, 3, 3, 1e8, 1, -1e8, 1, 5, 7, 1, 1), 0, "3x3:40400000,4cbebc20,3f800000,ccbebc20,3f800000,40a00000,40e00000,3f800000,3f800000,;true;"},
		{sectionOf(3, 3, 3, 1e8, 1, -1e8, 1, 5, 7, 1, 1), 1, "3x3:00000000,4bbebc20,4bbebc21,cbbebc1f,40100000,40000000,cbbebc1e,40200000,40000000,;true;"},
		{sectionOf(3, 3, 3, 1e8, 1, -1e8, 1, 5, 7, 1, 1), 0.3, "3x3:40066666,4c93d1cc,4ae4e1c3,cc93d1cc,3fb00000,40833333,cae4e1b4,3fb9999a,3fa66666,;true;"},
		{sectionOf(1, 3, 16777216, 1, -16777215), 0, "1x3:4b800000,3f800000,cb7fffff,;true;"},
		{sectionOf(1, 3, 16777216, 1, -16777215), 1, "1x3:4b400000,3f400000,cb3fffff,;true;"},
		{sectionOf(1, 3, 16777216, 1, -16777215), 0.3, "1x3:4b6ccccd,3f6ccccd,cb6ccccc,;true;"},
		{sectionOf(1, 1), 0, "0x0:;false;"},
		{sectionOf(1, 1), 1, "0x0:;false;"},
		{sectionOf(1, 1), 0.3, "0x0:;false;"},
		{sectionBy(4, 4, 3), 0, "4x4:3e0b9238,bf6d7dbf,bf1a161e,bf4ea4a8,3ed8fc4c,bd70d840,bf9c4d01,bdac3ca0,3f4d013a,3f97559b,3c329600,3d6e6320,bd38bac0,3ce63200,3f08ef36,bfc67382,;true;"},
		{sectionBy(4, 4, 3), 1, "4x4:bd6cd9f4,beb9de6a,bf63b4a2,bf1339c1,3ea6ab35,be0aee66,be3be0de,bf037804,3f1727bb,3e47ef9e,3e0de69c,bec85f07,3e3d1b72,3ed9a028,be79fbe6,bf207e28,;true;"},
		{sectionBy(4, 4, 3), 0.3, "4x4:3d9fdf36,bf421fc9,bf302c12,bf3cd162,3ec9e3f9,bda7a787,bf68e978,be5a0ba3,3f3cd994,3f62dd04,3d498895,bd9d028a,3cc33c6e,3e16b7ac,3e9a35e8,bfa2fd60,;true;"},
		{sectionOf(2, 2, 1, -4, 2, 0), minus, "2x2:3f800000,c0800000,40000000,00000000,;true;"},
		{sectionOf(2, 2, 1, -4, 2, 0), 0.5, "2x2:3f000000,c0380000,3fd00000,be800000,;true;"},
		{sectionOf(2, 2, 1, -4, 2, 0), -1, "2x2:40000000,c0c80000,40300000,3f000000,;true;"},
		{sectionOf(2, 2, 1, -4, 2, 0), 2, "2x2:bf800000,3f000000,3f000000,bf800000,;true;"},
		{sectionOf(2, 2, 1, -4, 2, 0), inf, "2x2:7fc00000,7fc00000,7fc00000,7fc00000,;true;"},
		{sectionOf(2, 2, 1, -4, 2, 0), -inf, "2x2:7fc00000,7fc00000,7fc00000,7fc00000,;true;"},
		{sectionOf(2, 2, 1, -4, 2, 0), nan, "2x2:7fc00000,7fc00000,7fc00000,7fc00000,;true;"},
		{sectionOf(2, 2, 1, -4, 2, 0), high, "2x2:ff7fffff,7fc00000,7fc00000,feffffff,;true;"},
		{sectionOf(2, 2, 1, -4, 2, 0), num(1), "2x2:3f800000,c0800000,40000000,00000000,;true;"},
		{sectionOf(2, 2, 1, -4, 2, 0), 1.0000001, "2x2:b4000000,bfdffffe,3f9fffff,bf000001,;true;"},
		{sectionOf(2, 2, 0, minus, minus, 0), minus, "2x2:00000000,80000000,80000000,00000000,;true;"},
		{sectionOf(2, 2, 0, minus, minus, 0), 0.5, "2x2:00000000,00000000,00000000,00000000,;true;"},
		{sectionOf(2, 2, 0, minus, minus, 0), -1, "2x2:00000000,80000000,80000000,00000000,;true;"},
		{sectionOf(2, 2, 0, minus, minus, 0), 2, "2x2:00000000,00000000,00000000,00000000,;true;"},
		{sectionOf(2, 2, 0, minus, minus, 0), inf, "2x2:7fc00000,7fc00000,7fc00000,7fc00000,;true;"},
		{sectionOf(2, 2, 0, minus, minus, 0), -inf, "2x2:7fc00000,7fc00000,7fc00000,7fc00000,;true;"},
		{sectionOf(2, 2, 0, minus, minus, 0), nan, "2x2:7fc00000,7fc00000,7fc00000,7fc00000,;true;"},
		{sectionOf(2, 2, 0, minus, minus, 0), high, "2x2:00000000,00000000,00000000,00000000,;true;"},
		{sectionOf(2, 2, 0, minus, minus, 0), num(1), "2x2:00000000,00000000,00000000,00000000,;true;"},
		{sectionOf(2, 2, 0, minus, minus, 0), 1.0000001, "2x2:00000000,00000000,00000000,00000000,;true;"},
		{sectionOf(2, 2, minus, minus, minus, minus), minus, "2x2:00000000,00000000,00000000,00000000,;true;"},
		{sectionOf(2, 2, minus, minus, minus, minus), 0.5, "2x2:80000000,80000000,80000000,80000000,;true;"},
		{sectionOf(2, 2, minus, minus, minus, minus), -1, "2x2:00000000,00000000,00000000,00000000,;true;"},
		{sectionOf(2, 2, minus, minus, minus, minus), 2, "2x2:00000000,00000000,00000000,00000000,;true;"},
		{sectionOf(2, 2, minus, minus, minus, minus), inf, "2x2:7fc00000,7fc00000,7fc00000,7fc00000,;true;"},
		{sectionOf(2, 2, minus, minus, minus, minus), -inf, "2x2:7fc00000,7fc00000,7fc00000,7fc00000,;true;"},
		{sectionOf(2, 2, minus, minus, minus, minus), nan, "2x2:7fc00000,7fc00000,7fc00000,7fc00000,;true;"},
		{sectionOf(2, 2, minus, minus, minus, minus), high, "2x2:00000000,00000000,00000000,00000000,;true;"},
		{sectionOf(2, 2, minus, minus, minus, minus), num(1), "2x2:80000000,80000000,80000000,80000000,;true;"},
		{sectionOf(2, 2, minus, minus, minus, minus), 1.0000001, "2x2:00000000,00000000,00000000,00000000,;true;"},
		{sectionOf(2, 2, inf, 1, 2, -3), minus, "2x2:7fc00000,7fc00000,7fc00000,c0400000,;true;"},
		{sectionOf(2, 2, inf, 1, 2, -3), 0.5, "2x2:7f800000,7f800000,7f800000,bff00000,;true;"},
		{sectionOf(2, 2, inf, 1, 2, -3), -1, "2x2:7fc00000,ff800000,ff800000,c0a80000,;true;"},
		{sectionOf(2, 2, inf, 1, 2, -3), 2, "2x2:7fc00000,7f800000,7f800000,3fc00000,;true;"},
		{sectionOf(2, 2, inf, 1, 2, -3), inf, "2x2:7fc00000,7fc00000,7fc00000,7fc00000,;true;"},
		{sectionOf(2, 2, inf, 1, 2, -3), -inf, "2x2:7fc00000,7fc00000,7fc00000,7fc00000,;true;"},
		{sectionOf(2, 2, inf, 1, 2, -3), nan, "2x2:7fc00000,7fc00000,7fc00000,7fc00000,;true;"},
		{sectionOf(2, 2, inf, 1, 2, -3), high, "2x2:7fc00000,7f800000,7fc00000,7f800000,;true;"},
		{sectionOf(2, 2, inf, 1, 2, -3), num(1), "2x2:7f800000,7f800000,7f800000,c0400000,;true;"},
		{sectionOf(2, 2, inf, 1, 2, -3), 1.0000001, "2x2:7fc00000,7f800000,7f800000,bf3ffffc,;true;"},
	} {
		isShown(t, show(c.s, c.share), show(impl.SmoothSection(c.s, c.share)), c.want)
	}
	var all strings.Builder
	for _, s := range someSections() {
		for _, share := range append(someNumbers(), 0.5, 0.7, 2) {
			all.WriteString(show(impl.SmoothSection(s, share)))
		}
	}
	isShown(t, "some", digest(all.String()), "7c2995f9")
}

// Each cell alone, among them those of all edges and corners, tells which cells
// are its neighbours.
func TestNeighboursOfEachCell(t *testing.T) {
	for _, c := range []struct {
		wide, deep int64
		want       string
	}{
		{1, 1, "28fce395"},
		{1, 2, "b8ce3c95"},
		{2, 1, "5906a55b"},
		{2, 2, "26dd2f35"},
		{3, 3, "b8278ad5"},
		{4, 3, "94c5640f"},
		{3, 5, "660569a3"},
		{1, 16, "1340c7f7"},
		{16, 1, "a3c8a119"},
	} {
		var all strings.Builder
		for cell := range c.wide * c.deep {
			s := pulseSection(c.wide, c.deep, cell)
			all.WriteString(show(impl.EdgeSection(s)))
			all.WriteString(show(impl.SmoothSection(s, 1)))
			all.WriteString(show(impl.SmoothSection(s, 0.3)))
		}
		isShown(t, show(c.wide, c.deep), digest(all.String()), c.want)
	}
}
