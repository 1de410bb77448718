/- What the laws ask of super's calls, shown for the program as it landed. -/
import Derived.Test.YtcnblgienombeaaSuperPick
namespace Go.Proofs.Ytcnblgienombeaa.SuperReal
open Go.RowKit Base SumOf SuperPlain SuperSpec

theorem specs : Specs where
  check := fun W x _ => SuperCode.check_any W x
  next := fun W x r f p h0 h1 => SuperCode.next_any W x r f p h0 h1
  put := fun g n W x h h0 hn _ => SuperPut.put_any g n W x h h0 hn
  get := fun g n W s ad c l h h0 hn hr hl hc => (SuperGet.get_any g n W s ad c l h h0 (by omega) hr hl hc).mono fun _ _ ⟨a, ⟨n', b1, b2, b3⟩, d⟩ => ⟨a, ⟨n', b1, by omega, b3⟩, d⟩
  pick := fun g n W ad bd c d l q h h0 hn hr hs hl hq hc hd => SuperPick.pick_any g n W ad bd c d l q h h0 hn hr hs hl hq hc hd
end Go.Proofs.Ytcnblgienombeaa.SuperReal
