
/- Programs as plain data, without where they lie. -/
import Derived.Test.YtpfncandcfgdnaaKa
namespace Go.Proofs.Ytpfncandcfgdnaa

/-- An instruction. -/
structure InsM where
  k : Int
  o : Int
  d : Int
  a : Int
  b : Int
  n : Int
  s : Int
/-- A block, without where its instructions lie. -/
structure ABlk where
  lab : Int
  ins : List InsM
  e : Int
  a : Int
  y : Int
  n : Int
end Go.Proofs.Ytpfncandcfgdnaa
