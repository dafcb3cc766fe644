/- - -/
import Derived.Test.YthpfpkikmaiddaaGreatDoorZth
import Derived.Test.YthpfpkikmaiddaaGreatDoorZtc
set_option linter.all false
namespace Go.Proofs.YthpfpkikmaiddaaGreatDoor.Tg
open Go Go.RowKit Go.Proofs.YthpfpkikmaiddaaGreatDoor.Pk Go.Proofs.YthpfpkikmaiddaaGreatDoor.Nt
theorem ckT_le {c:Ck} (h:gC c=true):(ckT c).size<=1000:=by
 have h1:=gO_size (gC_iff.1 h).1
 have h2:=(gC_iff.1 h).2
 rw [(ckT_eq c).symm]
 have h3:=txN_size c.n (by omega) (by omega)
 have h4:=hxT_size c.r
 simp only [ByteArray.size_append]
 have e1:sT.size=18:=rfl
 have e2:sN.size=1:=rfl
 omega
end Go.Proofs.YthpfpkikmaiddaaGreatDoor.Tg
