import Derived.Test.YtobagnjnbmgidaaGreatDoorP10
set_option linter.all false
set_option maxHeartbeats 8000000
set_option maxRecDepth 100000
namespace Go.Proofs.YtobagnjnbmgidaaGreatDoor
open Go.Conc Go.RowKit Tryz
section
variable{main:Bool}{B:Nat}{Ok:Addr→Bool→Prop}{Ψ:Goroutine→World→Prop}
theorem O8(F:aC prog main (DX Ok) Ψ)(hB:HB B Ok){cf:Frame}{cs:List Frame}{w:World}{C:List ah}{q lk u:Nat}{v:Value}(hS:Sat Ok w (bR u [ptr lk]::bR lk [v]::C))(ey:B≤w.heap.size)(K:∀w',Sat Ok w' (bR lk [ptr q]::C)→w.heap.size≤w'.heap.size→Ψ (G (cf.finish (.bool true)) cs) w'):
 Ψ (G (Frame.enter prog 95 #[.iface 168 (ptr q),.iface 170 (ptr lk),.agg #[.pointer (some ⟨1,170,none⟩),ptr u,.int .u64 150],.iface 217 (.agg #[.pointer (some ⟨1,168,none⟩)])] .normal) (cf::cs)) w:=by
 refine iT f95 func95 _ rfl 62 (by kernel_rfl) hS fun bb a0 B1 hn af aJ aP S0 dH=>?_
 refine aD F hB af aP S0 7 [] [] [] [(6,ptr B1),(0,.iface 168 (ptr q)),(1,.iface 170 (ptr lk)),(3,.iface 217 (.agg #[.pointer (some (Addr.mk 1 168 none))]))] (fun M=>bR (B1) [.pointer (some (Addr.mk 1 170 none)),ptr u,.int .u64 150]::(M)) 1 7 [] [] fun a1 w1 S1 aG ck cV cW=>?_
 refine aD F hB af aG S1 22 [0,0,0,3,1,0,0,1,0,0,0,1,3,0,0,1] [3] [] [(8,.bool true)] (fun M=>bR (B1+1) [ptr q]::(gH 2 (0,0) (ptr q) (M))) 2 29 [true] [] fun a2 w2 S2 aW dV kX A8=>?_
 refine dA F S2 af aJ aW [] (.bool true) ?_;exact K w2 S2.au.tail.tail.tail (by omega)
theorem Ya(F:aC prog main (DX Ok) Ψ)(hB:HB B Ok){cf:Frame}{cs:List Frame}{w:World}{C:List ah}{q lk:Nat}{v:Value}(he:Has C (oR 0 0 [.iface 217 (.agg #[.pointer (some ⟨1,121,none⟩)])] false))(hS:Sat Ok w (bR lk [v]::C))(ey:B≤w.heap.size)(K:∀w',Sat Ok w' (bR lk [ptr q]::C)→w.heap.size≤w'.heap.size→Ψ (G (cf.finish (.bool true)) cs) w'):
 Ψ (G (Frame.enter prog 65 #[.iface 168 (ptr q),.iface 170 (ptr lk)] .normal) (cf::cs)) w:=by
 replace hS:=hS.get he.cons;refine iT f65 func65 _ rfl 42 (by kernel_rfl) hS fun bb a0 B1 hn af aJ aP S0 dH=>?_
 refine aD F hB af aP S0 73 [0,0,0,3,0,0,0,3,0,0,0,3,1,0,0,1,2,0,0,1,0,0,0,3] [1,1,1,1,1,3,3,3,3,1] [] [(40,.iface 217 (.agg #[.pointer (some (Addr.mk 1 168 none))])),(39,.agg #[.pointer (some (Addr.mk 1 170 none)),ptr B1,.int .u64 150]),(38,.iface 170 (ptr lk)),(37,.iface 168 (ptr q))] (fun M=>bR (B1+1) [.pointer (some (Addr.mk 1 170 none)),ptr B1,.int .u64 150]::(bR (B1) [ptr lk]::(M))) 2 73 [false,false,false,false] [] fun a1 w1 S1 aG ck cV cW=>?_
 refine fT F af aG S1 41 95 #[.iface 168 (ptr q),.iface 170 (ptr lk),.agg #[.pointer (some (Addr.mk 1 170 none)),ptr B1,.int .u64 150],.iface 217 (.agg #[.pointer (some (Addr.mk 1 168 none))])] fun kP bK=>?_
 refine O8 (u:=B1) (v:=v) F hB (Sat.HQ (A:=[bR B1 [ptr lk]]) S1.au.tail) (by omega) fun w2 h2 kX=>bK _ _ _ h2 fun a2 B2 S2 aW dV=>?_
 refine aD F hB af aW S2 2 [] [] [] [(4,.bool true)] (fun M=>M) 0 76 [false,false,false,false] [] fun a3 w3 S3 bD eu fS gD=>?_
 refine dA F S3 af aJ bD [] (.bool true) ?_;exact K w3 S3.au (by omega)
theorem O7(F:aC prog main (DX Ok) Ψ)(hB:HB B Ok){cf:Frame}{cs:List Frame}{w:World}{C:List ah}{lk:Nat}(hS:Sat Ok w C)(ey:B≤w.heap.size)(K:∀w',Sat Ok w' C→w.heap.size≤w'.heap.size→Ψ (G (cf.finish (.bool false)) cs) w'):
 Ψ (G (Frame.enter prog 65 #[.nilIface,.iface 170 (ptr lk)] .normal) (cf::cs)) w:=by
 refine iT f65 func65 _ rfl 42 (by kernel_rfl) hS fun bb a0 B1 hn af aJ aP S0 dH=>?_
 refine aD F hB af aP S0 15 [] [3] [] [(4,.bool false)] (fun M=>M) 0 15 [true] [] fun a1 w1 S1 aG ck cV cW=>?_
 refine dA F S1 af aJ aG [] (.bool false) ?_;exact K w1 S1.au (by omega)
end
end Go.Proofs.YtobagnjnbmgidaaGreatDoor
