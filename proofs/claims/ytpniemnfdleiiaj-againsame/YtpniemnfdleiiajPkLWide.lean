/- What Check and Wide of package layer come to, for every layer. -/
import Derived.Test.YtpniemnfdleiiajLAt
import Derived.Test.YtpniemnfdleiiajPkLBox
import Derived.Test.YtpniemnfdleiiajReg
namespace Go.Proofs.Ytpniemnfdleiiaj
open Go.RowKit
theorem count_any(a:Option Addr)(N cap:Nat)(w:World)(hN:N≤maxLen):Calls Try.prog 16 #[.slice a N cap] w fun e w'=>e=.returned (errV (if 12<N then 3 else 0))∧w'=w:=by
 unfold maxLen at hN
 by_cases h12:12<N
 ·have h12':(12:Int)<(N:Int):=by omega
  rw[if_pos h12]
  go_enter Try.func16,Try.ntmps16
  go_wp2
  go_ret
  exact ⟨rfl,rfl⟩
 ·have h12':¬(12:Int)<(N:Int):=by omega
  rw[if_neg h12]
  go_enter Try.func16,Try.ntmps16
  go_wp2
  go_ret
  exact ⟨rfl,rfl⟩
def rawCells (z:Value) (k:Nat):Array Value:=madeCells z.cells k
theorem rawCells_size(z:Value)(k:Nat):(rawCells z k).size=k:=size_madeCells _ _
theorem run_mkL(e s size bytes:Nat)(z:Value)(hu:Try.prog.underlying s=some (.slice e))(hi:(Try.prog.info? e).map (fun i=>(i.zero,i.size,i.bytes))=some (some z,size,bytes))(L:Int)(n:Nat)(hL:L=(n:Int))(hn:bytes*n≤281474976710656)(hm:n≤9223372036854775807)(W:World):
  (Instr.makeSlice s (.int .i64 0) (.int .i64 L)).run Try.prog W=.ok (.slice (some ⟨W.heap.size,0,none⟩) 0 n) (W.alloc (.cells (rawCells z (n*size)) e)):=by
 obtain ⟨i0,hi0,hz0,hz1,hz2⟩:=info_parts hi
 subst hL
 have hr:=run_make (P:=Try.prog) W s e i0 z hu hi0 hz0 .i64 .i64 0 (n:Int) (by omega) (by omega) (by rw[hz2];omega) (by omega)
 simpa [hz1,rawCells] using hr
theorem OwnsG.room{G:Nat→Prop}{base:Nat}{w:World}{e:TypeId}{size cap:Nat}(cs:Array Value)(hb:base≤w.heap.size)(hc:cap≤maxLen)(hs:cs.size=cap*size):OwnsG G base (w.alloc (.cells cs e)) e size (.slice (some ⟨w.heap.size,0,none⟩) 0 cap) 0 []:=
 ⟨[],⟨by simp,.inr ⟨w.heap.size,cap,cs,rfl,hb,heap_alloc_new w _,Nat.zero_le _,hc,hs,by simp⟩⟩,Enc.nil _ _⟩
end Go.Proofs.Ytpniemnfdleiiaj
