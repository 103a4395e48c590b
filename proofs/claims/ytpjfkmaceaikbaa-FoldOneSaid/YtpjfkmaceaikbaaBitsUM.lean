/- The document's Apply (see RefU). -/
import Derived.Test.YtpjfkmaceaikbaaMg7
namespace Go.Proofs.Ytpjfkmaceaikbaa
open Go.RowKit
set_option linter.unusedVariables false
set_option linter.unusedSimpArgs false

theorem rApply_doc (op w fl a b : Int) (o1 : 1 ≤ op) (o2 : op ≤ 19) (h1 : 1 ≤ w) (h2 : w ≤ 64) (f0 : -9223372036854775808 ≤ fl) (f1 : fl ≤ 9223372036854775807) (hf : bits .andNot .i64 fl (flg op) = 0)
    (ha : 0 ≤ a) (ha' : a ≤ 18446744073709551615) (hb : 0 ≤ b) (hb' : b ≤ 18446744073709551615) :
    Makes 67 #[.int .i64 op, .int .i64 w, .int .i64 fl, .int .u64 a, .int .u64 b] (aplT w op fl a b) :=
  (rApply_all op w fl a b o1 o2 h1 h2 f0 f1 hf ha ha' hb hb').2
end Go.Proofs.Ytpjfkmaceaikbaa
