/- What scc's functions tell: proved in E7 (Reach15) and Eu (Groups15, Order15). -/
import Derived.Test.YtneehdjaaofjaaaW4
import Derived.Test.YtneehdjaaofjaaaEu

